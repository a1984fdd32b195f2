import Derived.Test.YtgfafbanahiigaaV19a
import Derived.Test.YtgfafbanahiigaaRU
import Derived.Test.YtgfafbanahiigaaV27
import Derived.Lib.QuietBelow
set_option linter.unusedVariables false
set_option linter.unusedSimpArgs false
namespace Go.Proofs.Ytgfafbanahiigaa
open Go.RowKit Go.Chorus Go.Sort

section
variable {P : Program} {ops : Array Oper} {w0 w1 : World}

/-- One that reads, by the walk at both worlds; the frame is laid out behind it. -/
theorem two_next {Q : Act → Prop} {a : Act} {o : Oper} {l : List Oper} {d : Nat} (v : Value) (hd : o.dst = some d)
    (h0 : ∀ K : Act → Prop, (∀ a', a'.tmps[d]? = some v → wpTwo P ops w0 w1 Q l a' → K a') → if Region.wanted o (yielded ops a.tmps) then o.still P a w0 K else K (a.put o.dst undef))
    (h1 : ∀ K : Act → Prop, (∀ a', a'.tmps[d]? = some v → K a') → if Region.wanted o (yielded ops a.tmps) then o.still P a w1 K else K (a.put o.dst undef)) : wpTwo P ops w0 w1 Q (o :: l) a := by
  have hinj : ∀ u, (a.put o.dst u).tmps[d]? = some v → u = v := fun u hu => by
    rw [hd] at hu
    by_cases hz : d < a.tmps.size
    · simpa [Act.put, hz] using hu
    · simp [Act.put, hz] at hu
  have key : ∀ (W : World) (R : Act → Prop), (if Region.wanted o (yielded ops a.tmps) then o.still P a W (fun a' => a'.tmps[d]? = some v ∧ R a') else ((a.put o.dst undef).tmps[d]? = some v ∧ R (a.put o.dst undef))) → YieldsAt P ops W o v a ∧ R (a.put o.dst v) := fun W R h2 => by
    unfold YieldsAt
    by_cases hw : Region.wanted o (yielded ops a.tmps) = true
    · rw [if_pos hw] at h2
      unfold Oper.still at h2
      generalize hr : (execOp a.eval o).run P W = r at h2
      cases r with
      | ok n w' =>
        cases n <;> simp only [Oper.stillUpon] at h2
        case value u => obtain ⟨rfl, h3, h4⟩ := h2; rw [hinj u h3] at h4 ⊢; exact ⟨.inl ⟨hw, .inl rfl⟩, h4⟩
        case skip => obtain ⟨rfl, h3, h4⟩ := h2; have e := hinj _ h3; rw [e] at h4; exact ⟨.inl ⟨hw, .inr (.inl ⟨rfl, e.symm⟩)⟩, h4⟩
        case enter f args => obtain ⟨rfl, u, hc, h3, h4⟩ := h2; rw [hinj u h3] at hc h4; exact ⟨.inl ⟨hw, .inr (.inr ⟨f, args, rfl, hc⟩)⟩, h4⟩
      | halt x w' => simp only [Oper.stillUpon] at h2
    · rw [if_neg hw] at h2
      have e := hinj _ h2.1
      rw [e] at h2
      exact ⟨.inr ⟨by simpa using hw, e.symm⟩, h2.2⟩
  obtain ⟨k1, k2⟩ := key w0 (wpTwo P ops w0 w1 Q l) (h0 _ (fun a' x y => ⟨x, y⟩))
  exact ⟨v, k1, (key w1 (fun _ => True) (h1 _ (fun a' x => ⟨x, trivial⟩))).1, k2⟩
end


theorem sum_set : ∀ (l : List Nat) (n : Nat), n < l.length → (l.set n (l.getD n 0 + 1)).sum = l.sum + 1 := by
  intro l
  induction l with
  | nil => intro n hn; simp at hn
  | cons a l ih =>
    intro n hn
    cases n with
    | zero => simp; omega
    | succ n =>
      simp only [List.set_cons_succ, List.sum_cons, List.getD_cons_succ]
      rw [ih n (by simpa using hn)]; omega

theorem sum_fits (l : List Nat) (h : l.length = 3) (hb : ∀ n ∈ l, n < 4294967296) : l.sum ≤ 12884901888 := by
  have := sum_take_le l hb 3
  rw [List.take_of_length_le (by omega)] at this
  omega

set_option maxHeartbeats 20000000 in
set_option maxRecDepth 100000 in
theorem once_any (a : Option Addr) (n cap : Nat) (w : World) (hn : n ≤ 9223372036854775807) (hs : StepsAt w a n)
    (hstep : ∀ (B : Nat → Prop) (w : World) (bg bl lc : Nat) (bp : Nat → Nat) (ss : Nat → Pr) (Fs : Nat → Nat → Prop) (pv : Value) (mds : List Mk) (count t : Nat) (H : List Ope) (G : GSt B w bg bl lc bp ss Fs pv mds count) (O : GOk t H ss count) (hH : (mds.map Mk.o).reverse = H) (ht : t ≤ 300) (hB : ∀ b, w.heap.size ≤ b → B b)
      (kind peer at_ which : Int) (hki : i64ok kind) (hpe : i64ok peer) (hat : i64ok at_) (hwh : i64ok which) (hwr : pickN kind 8 < 5 ∨ mds.length = 0),
      Calls Try.prog 19 #[.pointer (some ⟨bg, 0, none⟩), .agg #[.int .i64 kind, .int .i64 peer, .int .i64 at_, .int .i64 which]] w fun e' w' => e' = .returned (.bool true) ∧ Kept B w w' ∧
        ∃ o Fs' pv' kb kc count', o.peer = (pickN peer 3).toNat ∧ o.seen = (ss (pickN peer 3).toNat).known ∧ o.num = (ss (pickN peer 3).toNat).k (pickN peer 3).toNat + 1 ∧ GSt B w' bg bl lc bp (upd ss (pickN peer 3).toNat ((ss (pickN peer 3).toNat).deliverF o).1) Fs' pv' (mds ++ [⟨o, kb, kc⟩]) count' ∧ GOk (t + 1) (o :: H) (upd ss (pickN peer 3).toNat ((ss (pickN peer 3).toNat).deliverF o).1) count') :
    Calls Try.prog 6 #[.slice a n cap] w fun e' w' => e' = .returned (.bool true) ∧ Kept (fun _ => False) w w' := by
  go_enter Try.func6, Try.ntmps6
  go_wp2_with fail
  refine (fresh_any w).mono ?_
  rintro e1 w1 ⟨bg, bl, lc, bp, Fs, rfl, G1, hk1⟩
  go_wp2
  go_loopw [4] (fun i wr => ∃ (k : Nat) (ss : Nat → Pr) (Fs : Nat → Nat → Prop) (pv : Value) (mds : List Mk) (count : Nat), k ≤ n ∧ k ≤ 60 ∧ i = .int .i64 k ∧ GSt (fun b => w.heap.size ≤ b) wr bg bl lc bp ss Fs pv mds count ∧ GOk k ((mds.map Mk.o).reverse) ss count ∧ Kept (fun _ => False) w wr) (fun i _ => 60 - (intOf i).toNat)
  case atStart => exact ⟨0, stNew, Fs, _, [], 0, Nat.zero_le _, Nat.zero_le _, rfl, G1, GOk.start, hk1⟩
  case round =>
    clear G1
    obtain ⟨k, ss, Fs, pv, mds, count, hkn, hk60, rfl, G, O, hK⟩ := hrel
    obtain ⟨wo, hwo⟩ : ∃ wo : World, wo = wr := ⟨_, rfl⟩
    subst hwo
    by_cases hlt : k < n ∧ k < 60
    · obtain ⟨hlt1, hlt2⟩ := hlt
      have hd1 : decide ((k : Int) < (n : Int)) = true := by rw [decide_eq_true_iff]; omega
      have hd2 : decide ((k : Int) < 60) = true := by rw [decide_eq_true_iff]; omega
      have hd3 : (k : Int) < (n : Int) := by omega
      have hd4 : (k : Int) < 60 := by omega
      obtain ⟨b, off, kd, pe, at_, wh, rfl, s0, s1, s2, s3, r0, r1, r2, r3⟩ := (hs.kept hK) k hlt1
      obtain ⟨p, hp⟩ : ∃ p : Nat, pickN pe 3 = p := by
        have := pickN_lo pe 3 (by decide)
        exact ⟨(pickN pe 3).toNat, by omega⟩
      have hp3 : p < 3 := by have := pickN_hi pe 3 (by decide); omega
      have HP : Hid (pickN pe 3 = (p : Int)) := hp
      clear hp
      go_wp2_with fail
      refine (kpick_any pe 3 _ (by decide) (by decide) r1.1 r1.2).mono ?_
      rintro e2 w2 ⟨rfl, rfl⟩
      rw [HP.out]
      obtain ⟨W, hW⟩ : ∃ W, W = wo.alloc (.cells #[.int .i64 kd, .int .i64 pe, .int .i64 at_, .int .i64 wh] 31) := ⟨_, rfl⟩
      have hkW : Kept (fun _ => False) wo W := by rw [hW]; exact (Kept.refl _ wo).alloc _
      have hsb : W.heap[wo.heap.size]? = some (.cells #[.int .i64 kd, .int .i64 pe, .int .i64 at_, .int .i64 wh] 31 (0, 0)) := by rw [hW]; exact heap_alloc_new wo _
      rw [← hW]
      clear hW
      have GW := G.quiet hkW
      have c0 : W.cell? ⟨bg, 0, none⟩ = some (.slice (some ⟨bl, 0, none⟩) 3 lc) := by rw [Lib.cell_of_heap GW.block]; rfl
      have cz := lt_of_heap GW.block
      obtain ⟨cur, hl1, hl2⟩ := GW.list
      have cl : W.cell? ⟨bl, p, none⟩ = some (.pointer (some ⟨bp p, 0, none⟩)) := by rw [Lib.cell_of_heap hl1]; exact hl2 p hp3
      have lz := lt_of_heap hl1
      have hp3i : (p : Int) < 3 := by omega
      have hka := known_pm (ss p) 3 (bp p) (Fs p) W (GW.peers p hp3) (O.fit p hp3)
      clear s0 s1 s2 s3 hl1 hl2
      go_wp2_with fail
      refine hka.mono ?_
      rintro e3 w3 ⟨rfl, hca, hk3⟩
      have hsb3 := hk3.heap hsb (fun h => h)
      have t0 : w3.cell? ⟨wo.heap.size, 0, none⟩ = some (.int .i64 kd) := by rw [Lib.cell_of_heap hsb3]; rfl
      have t1 : w3.cell? ⟨wo.heap.size, 1, none⟩ = some (.int .i64 pe) := by rw [Lib.cell_of_heap hsb3]; rfl
      have t2 : w3.cell? ⟨wo.heap.size, 2, none⟩ = some (.int .i64 at_) := by rw [Lib.cell_of_heap hsb3]; rfl
      have t3 : w3.cell? ⟨wo.heap.size, 3, none⟩ = some (.int .i64 wh) := by rw [Lib.cell_of_heap hsb3]; rfl
      have tz := lt_of_heap hsb3
      have hWz := lt_of_heap hsb
      have hca3 := lt_of_heap hca
      have htx := text_pm (ss p) (bp p) (Fs p) w3 ((GW.peers p hp3).quiet hk3) (by have := O.size p hp3; unfold psize at this; omega) (O.fit p hp3).row
      obtain ⟨S, hS⟩ : ∃ S : ByteArray, (⟨(textBytes (ss p).row).toArray⟩ : ByteArray) = S := ⟨_, rfl⟩
      rw [hS] at htx
      have e0 := hk3.cell' c0 (fun h => h)
      have e1 := hk3.cell' cl (fun h => h)
      have e0z := Nat.lt_of_lt_of_le cz hk3.size
      have e1z := Nat.lt_of_lt_of_le lz hk3.size
      clear hka c0 cl cz lz
      go_wp2_with fail
      refine htx.mono ?_
      rintro e4 w4 ⟨rfl, hk4⟩
      have hsb4 := hk4.heap hsb3 (fun h => h)
      have hca4 := hk4.heap hca (fun h => h)
      have t0 : w4.cell? ⟨wo.heap.size, 0, none⟩ = some (.int .i64 kd) := by rw [Lib.cell_of_heap hsb4]; rfl
      have t1 : w4.cell? ⟨wo.heap.size, 1, none⟩ = some (.int .i64 pe) := by rw [Lib.cell_of_heap hsb4]; rfl
      have t2 : w4.cell? ⟨wo.heap.size, 2, none⟩ = some (.int .i64 at_) := by rw [Lib.cell_of_heap hsb4]; rfl
      have t3 : w4.cell? ⟨wo.heap.size, 3, none⟩ = some (.int .i64 wh) := by rw [Lib.cell_of_heap hsb4]; rfl
      have tz := lt_of_heap hsb4
      have GO4 := ((G.old w4.heap.size).quiet hkW).quiet (hk3.trans' hk4)
      have hK4 : Kept (fun _ => False) w w4 := ((hK.trans' hkW).trans' hk3).trans' hk4
      obtain ⟨apv, cpv, hpv, _, hpvc⟩ := own_slice GO4.packets
      subst hpv
      have d1 : w4.cell? ⟨bg, 1, none⟩ = some (.slice apv mds.length cpv) := by rw [Lib.cell_of_heap GO4.block]; rfl
      have dz := lt_of_heap GO4.block
      have hkn3 : (ss p).known.length = 3 := (O.fit p hp3).len
      have hpN : (pickN pe 3).toNat = p := by rw [HP.out]; exact Int.toNat_natCast p
      have hml : mds.length ≤ 61 := by
        have := O.len
        rw [List.length_reverse, List.length_map] at this
        omega
      have H4 : Hid (GSt (fun b => w.heap.size ≤ b ∧ (b < wo.heap.size ∨ w4.heap.size ≤ b)) w4 bg bl lc bp ss Fs (.slice apv mds.length cpv) mds count ∧ GOk k ((mds.map Mk.o).reverse) ss count ∧ Kept (fun _ => False) w w4 ∧ w4.heap[wo.heap.size]? = some (.cells #[.int .i64 kd, .int .i64 pe, .int .i64 at_, .int .i64 wh] 31 (0, 0)) ∧ w4.heap[W.heap.size]? = some (.cells (i64s (ss p).known) 3 (0, 0)) ∧ wo.heap.size < W.heap.size ∧ W.heap.size < w4.heap.size ∧ (⟨(textBytes (ss p).row).toArray⟩ : ByteArray) = S) := ⟨GO4, O, hK4, hsb4, hca4, lt_of_heap hsb, lt_of_heap hca4, hS⟩
      clear htx e0 e1 e0z e1z hsb3 GO4 O hK4 hsb4 hca4 G GW hk3 hk4 hca hsb hkW hK hS hWz hca3
      -- what is behind a step that writes
      have hwrite : (pickN kd 8 < 5 ∨ mds.length = 0) → Calls Try.prog 19 #[.pointer (some ⟨bg, 0, none⟩), .agg #[.int .i64 kd, .int .i64 pe, .int .i64 at_, .int .i64 wh]] w4 fun e' w' => e' = .returned (.bool true) ∧ Hid (∃ ss' Fs' pv' mds' count', GSt (fun b => w.heap.size ≤ b) w' bg bl lc bp ss' Fs' pv' mds' count' ∧ GOk (k + 1) ((mds'.map Mk.o).reverse) ss' count' ∧ Kept (fun _ => False) w w' ∧ w'.heap[W.heap.size]? = some (.cells (i64s (ss p).known) 3 (0, 0)) ∧ (ss' p).known.sum = (ss p).known.sum + 1 ∧ (ss' p).k p = (ss p).k p + 1) := fun hw => by
        obtain ⟨G, O, hK, hsb, hca, z1, z2, hS⟩ := H4.out
        refine (hstep _ w4 bg bl lc bp ss Fs _ mds count k _ G O rfl (by omega) (fun b hb => ⟨Nat.le_trans hK.size hb, Or.inr hb⟩) kd pe at_ wh r0 r1 r2 r3 hw).mono ?_
        rw [hpN]
        rintro e' w' ⟨rfl, hk, o, Fs', pv', kb, kc, count', ho1, ho2, ho3, G', O'⟩
        refine ⟨rfl, upd ss p ((ss p).deliverF o).1, Fs', pv', mds ++ [(⟨o, kb, kc⟩ : Mk)], count', G'.mono (fun b h => h.1), ?_, hK.trans hk (fun i hi h => by have := h.1; omega), hk.heap hca (fun h => by have := h.2; omega), ?_, ?_⟩
        · have e1 : ((mds ++ [(⟨o, kb, kc⟩ : Mk)]).map Mk.o).reverse = o :: (mds.map Mk.o).reverse := by rw [List.map_append, List.reverse_append]; rfl
          rw [e1]; exact O'
        · rw [upd_same, own_alone O.hist (O.ok p hp3) (by rw [ho1, O.me p hp3])]
          show ((ss p).known.set o.peer ((ss p).k o.peer + 1)).sum = _
          exact sum_set (ss p).known o.peer (by rw [ho1, hkn3]; exact hp3)
        · rw [upd_same, own_alone O.hist (O.ok p hp3) (by rw [ho1, O.me p hp3]), k_apply _ _ (by rw [ho1, hkn3]; exact hp3), ho1]
          unfold bump
          rw [if_pos rfl]
      go_upto_region 11 with fail
      go_cut [64] (fun v wd => v = .bool (decide (pickN kd 8 < 5 ∨ mds.length = 0)) ∧ wd = w4)
      case first =>
        as_aux_lemma =>
          clear hwrite
          go_wp2_with fail
          refine (kpick_any kd 8 w4 (by decide) (by decide) r0.1 r0.2).mono ?_
          rintro e6 w6 ⟨rfl, hw6⟩
          obtain rfl : w4 = w6 := hw6.symm
          clear hw6
          obtain ⟨PV, hPV⟩ : ∃ PV, pickN kd 8 = PV := ⟨_, rfl⟩
          have HPV : Hid (pickN kd 8 = PV) := hPV
          rw [hPV]
          clear hPV
          by_cases hlt5 : PV < 5
          · have hd : Hid (decide (PV < 5 ∨ mds.length = 0) = true) := by show _ = _; simp [hlt5]
            go_wp2_with fail
            go_meet
            exact ⟨by simp only [HPV.out, hd.out]; try simp [hlt5], rfl⟩
          · by_cases hm0 : mds.length = 0
            · have hd : Hid (decide (PV < 5 ∨ mds.length = 0) = true) := by show _ = _; simp [hm0]
              rw [hm0] at d1
              go_wp2_with fail
              go_meet
              exact ⟨by simp only [HPV.out, hd.out]; try simp [hlt5], rfl⟩
            · have hd : Hid (decide (PV < 5 ∨ mds.length = 0) = false) := by show _ = _; simp [hlt5, hm0]
              have hm0i : ((mds.length : Int) == 0) = false := by simp; exact fun h => hm0 (by rw [h]; rfl)
              have hm0j : ¬ (mds.length : Int) = 0 := by omega
              go_wp2_with fail
              go_meet
              exact ⟨by simp only [HPV.out, hd.out]; try simp [hlt5], rfl⟩
      case rest =>
       obtain ⟨rfl, hwc⟩ := hcut
       rw [hwc]
       clear hwc
       by_cases hwr : pickN kd 8 < 5 ∨ mds.length = 0
       · have hwrite2 := hwrite hwr
         have hdt : decide (pickN kd 8 < 5 ∨ mds.length = 0) = true := by rw [decide_eq_true_iff]; exact hwr
         rw [hdt]
         clear hwrite hdt
         as_aux_lemma =>
           · clear hwr
             go_wp2_with fail
             refine hwrite2.mono ?_
             rintro e7 w7 ⟨rfl, hX⟩
             clear hwrite2
             obtain ⟨ss', Fs', pv', mds', count', G7, O7, hK7, hca7, hsum, hkp⟩ := hX.out
             have c0 : w7.cell? ⟨bg, 0, none⟩ = some (.slice (some ⟨bl, 0, none⟩) 3 lc) := by rw [Lib.cell_of_heap G7.block]; rfl
             have cz := lt_of_heap G7.block
             obtain ⟨cur, hl1, hl2⟩ := G7.list
             have cl : w7.cell? ⟨bl, p, none⟩ = some (.pointer (some ⟨bp p, 0, none⟩)) := by rw [Lib.cell_of_heap hl1]; exact hl2 p hp3
             have lz := lt_of_heap hl1
             have hkb := known_pm (ss' p) 3 (bp p) (Fs' p) w7 (G7.peers p hp3) (O7.fit p hp3)
             have HG7 : Hid (GSt (fun b => w.heap.size ≤ b) w7 bg bl lc bp ss' Fs' pv' mds' count' ∧ GOk (k + 1) ((mds'.map Mk.o).reverse) ss' count' ∧ Kept (fun _ => False) w w7) := ⟨G7, O7, hK7⟩
             have hl3 := (O7.fit p hp3).len
             have hkf := (O7.fit p hp3).known
             have hkf0 := (H4.out.2.1.fit p hp3).known
             clear G7 O7 hl1 hl2 d1 dz t0 t1 t2 t3 tz hX
             go_wp2_with fail
             refine hkb.mono ?_
             rintro e8 w8 ⟨rfl, hcn, hk8⟩
             have hca8 := hk8.heap hca7 (fun h => h)
             have hfw := sum_fits _ hkn3 hkf0
             have hs1 : ∀ W', Kept (fun _ => False) w8 W' → Calls Try.prog 22 #[.slice (some ⟨w7.heap.size, 0, none⟩) 3 3] W' fun e' w' => e' = .returned (.int .i64 ((ss' p).known.sum : Nat)) ∧ w' = W' := fun W' hW' => by
               have := ksum_any w7.heap.size 3 (ss' p).known W' (by rw [hl3]; decide) hkf (fun i n hi => by rw [Lib.cell_of_heap (hW'.heap hcn (fun h => h)), i64s_at, hi]; rfl)
               rw [hl3] at this; exact this
             have hs2 : ∀ W', Kept (fun _ => False) w8 W' → Calls Try.prog 22 #[.slice (some ⟨W.heap.size, 0, none⟩) 3 3] W' fun e' w' => e' = .returned (.int .i64 ((ss p).known.sum : Nat)) ∧ w' = W' := fun W' hW' => by
               have := ksum_any W.heap.size 3 (ss p).known W' (by rw [hkn3]; decide) hkf0 (fun i n hi => by rw [Lib.cell_of_heap (hW'.heap hca8 (fun h => h)), i64s_at, hi]; rfl)
               rw [hkn3] at this; exact this
             rw [hsum] at hs1
             obtain ⟨sw, hsw⟩ : ∃ sw, (ss p).known.sum = sw := ⟨_, rfl⟩
             rw [hsw] at hs1 hs2 hfw
             have hsI : ((sw + 1 : Nat) : Int) = (sw : Int) + 1 := by omega
             rw [hsI] at hs1
             clear hsI
             obtain ⟨kw, hkw⟩ : ∃ kw, (ss p).k p = kw := ⟨_, rfl⟩
             have hkwf : kw < 4294967296 := by rw [← hkw]; exact (H4.out.2.1.fit p hp3).k p
             have n0 : w8.cell? ⟨W.heap.size, p, none⟩ = some (.int .i64 (kw : Int)) := by
               rw [Lib.cell_of_heap hca8, i64s_at, List.getElem?_eq_getElem (by rw [hkn3]; exact hp3), ← hkw]
               unfold Pr.k
               rw [List.getD_eq_getElem?_getD, List.getElem?_eq_getElem (by rw [hkn3]; exact hp3)]; rfl
             have n1 : w8.cell? ⟨w7.heap.size, p, none⟩ = some (.int .i64 ((kw : Int) + 1)) := by
               rw [Lib.cell_of_heap hcn, i64s_at, List.getElem?_eq_getElem (by rw [hl3]; exact hp3)]
               have e1 : (ss' p).known[p]'(by rw [hl3]; exact hp3) = kw + 1 := by
                 have := hkp
                 rw [hkw] at this
                 unfold Pr.k at this
                 rw [List.getD_eq_getElem?_getD, List.getElem?_eq_getElem (by rw [hl3]; exact hp3)] at this
                 exact this
               rw [e1]
               simp
             have n0z := lt_of_heap hca8
             have n1z := lt_of_heap hcn
             have hK8 := hk8
             rw [hl3]
             clear hca8 hcn hsum hkp hsw hkw hkf hkf0 hk8 hkb c0 cl cz lz hca7
             go_wp2_with fail
             go_quiet (first | (go_at_call_of 22 (Value.slice (some ⟨w7.heap.size, 0, none⟩) 3 3); refine Calls.quiet_of_same (hs1 _ ((Kept.refl _ _).drewN _))) | (go_at_call_of 22 (Value.slice (some ⟨W.heap.size, 0, none⟩) 3 3); refine Calls.quiet_of_same (hs2 _ ((Kept.refl _ _).drewN _))))
             go_wp2
             go_roundw
             case rel => exact ⟨k + 1, ss', Fs', pv', mds', count', by omega, by omega, by go_num, HG7.out.1.quiet (hK8.drewN _), HG7.out.2.1, HG7.out.2.2.trans' (hK8.drewN _)⟩
             case measure => simp [intOf]; omega
       · clear hwrite
         have hm0 : ¬ mds.length = 0 := fun h => hwr (Or.inr h)
         have hdf : decide (pickN kd 8 < 5 ∨ mds.length = 0) = false := by rw [decide_eq_false_iff_not]; exact hwr
         rw [hdf]
         clear hwr hdf
         have hm0j : ¬ (mds.length : Int) = 0 := by omega
         have pl := pickN_lo wh (mds.length : Int) (by omega)
         have ph := pickN_hi wh (mds.length : Int) (by omega)
         obtain ⟨i, hi⟩ : ∃ i : Nat, pickN wh (mds.length : Int) = i := ⟨(pickN wh (mds.length : Int)).toNat, by omega⟩
         have hil : i < mds.length := by omega
         have hkp : ∀ W' : World, Calls Try.prog 13 #[.int .i64 wh, .int .i64 (mds.length : Int)] W' fun e' w' => e' = .returned (.int .i64 (i : Int)) ∧ w' = W' := fun W' => by
           have := kpick_any wh (mds.length : Int) W' (by omega) (by omega) r3.1 r3.2
           rw [hi] at this; exact this
         clear pl ph hi
         obtain ⟨md, hmd⟩ : ∃ m, mds[i]? = some m := ⟨_, List.getElem?_eq_getElem hil⟩
         obtain ⟨gp, curp, rfl, hgp, htkp⟩ : ∃ gp curp, apv = some ⟨gp, 0, none⟩ ∧ w4.heap[gp]? = some (.cells curp 51 (0, 0)) ∧ curp.toList.take (mds.length * 4) = madesCells mds := by
           rcases H4.out.1.packets.2 with ⟨e, h0⟩ | ⟨g, cap, cur, e, _, hg, _, _, _, htk⟩
           · omega
           · injection e with x1 x2 x3
             exact ⟨g, cur, x1, hg, htk⟩
         have hcell : ∀ j, j < 4 → ∀ v, md.cells[j]? = some v → w4.cell? ⟨gp, i * 4 + j, none⟩ = some v := fun j hj v hv => by
           have h1 := madesCells_at mds i md hmd j hj
           rw [hv, ← htkp, List.getElem?_take] at h1
           split at h1
           · rw [Lib.cell_of_heap hgp, ← Array.getElem?_toList]; exact h1
           · cases h1
         have hmH : md.o ∈ (mds.map Mk.o).reverse := by simp; exact ⟨md, List.mem_of_getElem? hmd, rfl⟩
         have hR := H4.out.2.1.right md.o hmH
         have x0 := hcell 0 (by decide) _ rfl
         have x1 := hcell 1 (by decide) _ rfl
         have x2 := hcell 2 (by decide) _ rfl
         have x3 := hcell 3 (by decide) _ rfl
         rw [Nat.add_zero] at x0
         rw [hR.seen] at x3
         have xz := lt_of_heap hgp
         have hili : (i : Int) < (mds.length : Int) := by omega
         obtain ⟨PK, hPK⟩ : ∃ PK : ByteArray, (⟨md.o.packet.toArray⟩ : ByteArray) = PK := ⟨_, rfl⟩
         rw [hPK] at x0
         have HPK : Hid ((⟨md.o.packet.toArray⟩ : ByteArray) = PK) := hPK
         have HMD : Hid (mds[i]? = some md) := hmd
         clear hPK hcell hgp htkp hmd
         go_wp2_with fail
         go_cut [11] (fun ov wc => ov = .pointer (some ⟨w4.heap.size, 0, none⟩) ∧ Kept (fun _ => False) w4 wc ∧ wc.heap[w4.heap.size]? = some (.cells #[.string PK, .int .i64 md.o.peer, .int .i64 md.o.num, .slice (some ⟨md.kb, 0, none⟩) 3 md.kc] 51 (0, 0)))
         case first =>
           as_aux_lemma =>
             refine wp_region_four 14 14 1 ((w4.alloc (.cells #[.string ⟨#[]⟩, .int .i64 0, .int .i64 0, .slice none 0 0] 51)).drew) (.pointer (some ⟨w4.heap.size, 0, none⟩)) (by kernel_rfl) (by kernel_rfl) rfl ?_
             simp only [List.take_succ_cons, List.take_zero, List.drop_succ_cons, List.drop_zero]
             change wpTwo _ _ (World.drew _) _ _ _ _
             refine two_next (.pointer (some ⟨bg, 0, none⟩)) rfl (fun K hK => ?_) (fun K hK => ?_)
             case' refine_2 => go_simp; exact hK _ rfl
             go_simp
             refine hK _ rfl ?_
             clear hK K
             refine two_next (.pointer (some ⟨bg, 0, none⟩)) rfl (fun K hK => ?_) (fun K hK => ?_)
             case' refine_2 => go_simp; exact hK _ rfl
             go_simp
             refine hK _ rfl ?_
             clear hK K
             refine two_next (.pointer (some ⟨bg, 1, none⟩)) rfl (fun K hK => ?_) (fun K hK => ?_)
             case' refine_2 => go_simp; exact hK _ rfl
             go_simp
             refine hK _ rfl ?_
             clear hK K
             refine two_next (.slice (some ⟨gp, 0, none⟩) mds.length cpv) rfl (fun K hK => ?_) (fun K hK => ?_)
             case' refine_2 => go_simp; exact hK _ rfl
             go_simp
             refine hK _ rfl ?_
             clear hK K
             refine two_next (.pointer (some ⟨wo.heap.size, 3, none⟩)) rfl (fun K hK => ?_) (fun K hK => ?_)
             case' refine_2 => go_simp; exact hK _ rfl
             go_simp
             refine hK _ rfl ?_
             clear hK K
             refine two_next (.int .i64 wh) rfl (fun K hK => ?_) (fun K hK => ?_)
             case' refine_2 => go_simp; exact hK _ rfl
             go_simp
             refine hK _ rfl ?_
             clear hK K
             refine two_next (.pointer (some ⟨bg, 0, none⟩)) rfl (fun K hK => ?_) (fun K hK => ?_)
             case' refine_2 => go_simp; exact hK _ rfl
             go_simp
             refine hK _ rfl ?_
             clear hK K
             refine two_next (.pointer (some ⟨bg, 0, none⟩)) rfl (fun K hK => ?_) (fun K hK => ?_)
             case' refine_2 => go_simp; exact hK _ rfl
             go_simp
             refine hK _ rfl ?_
             clear hK K
             refine two_next (.pointer (some ⟨bg, 1, none⟩)) rfl (fun K hK => ?_) (fun K hK => ?_)
             case' refine_2 => go_simp; exact hK _ rfl
             go_simp
             refine hK _ rfl ?_
             clear hK K
             refine two_next (.slice (some ⟨gp, 0, none⟩) mds.length cpv) rfl (fun K hK => ?_) (fun K hK => ?_)
             case' refine_2 => go_simp; exact hK _ rfl
             go_simp
             refine hK _ rfl ?_
             clear hK K
             refine two_next (.int .i64 (mds.length : Int)) rfl (fun K hK => ?_) (fun K hK => ?_)
             case' refine_2 => go_simp; exact hK _ rfl
             go_simp
             refine hK _ rfl ?_
             clear hK K
             refine two_next (.int .i64 (i : Int)) rfl (fun K hK => ?_) (fun K hK => ?_)
             case' refine_2 => go_simp; exact ⟨_, hkp _, hK _ rfl⟩
             go_simp
             refine ⟨_, hkp _, hK _ rfl ?_⟩
             clear hK K
             refine two_next (.pointer (some ⟨gp, i * 4, none⟩)) rfl (fun K hK => ?_) (fun K hK => ?_)
             case' refine_2 => go_simp; exact hK _ rfl
             go_simp
             refine hK _ rfl ?_
             clear hK K
             refine two_next (.agg #[.string PK, .int .i64 md.o.peer, .int .i64 md.o.num, .slice (some ⟨md.kb, 0, none⟩) 3 md.kc]) rfl (fun K hK => ?_) (fun K hK => ?_)
             case' refine_2 => go_simp; exact hK _ rfl
             go_simp
             refine hK _ rfl ?_
             clear hK K
             refine two_nil ?_
             change wpStill _ _ (World.drew _) _ _ _
             refine wpStill_nil ⟨⟨rfl, ?_⟩, ?_⟩
             · show Sem.run _ _ (World.drew w4) = _
               go_simp
               try rfl
             · go_wp2_with fail
               change wpStill _ _ _ _ _ _
               refine wpStill_nil ?_
               go_wp2_with fail
               go_meet
               exact ⟨rfl, ((Kept.refl _ w4).alloc _).drew, heap_alloc_new w4 _⟩
         case rest =>
           obtain ⟨rfl, hkc, hbox⟩ := hcut
           clear x0 x1 x2 x3 xz hkp d1
           obtain ⟨wx, hwx⟩ : ∃ x, x = wc := ⟨_, rfl⟩
           subst hwx
           obtain ⟨G4, O4, hK4, hsb4, hca4, z1, z2, hS⟩ := H4.out
           have Gc := G4.quiet hkc
           have c0 : wx.cell? ⟨bg, 0, none⟩ = some (.slice (some ⟨bl, 0, none⟩) 3 lc) := by rw [Lib.cell_of_heap Gc.block]; rfl
           have cz := lt_of_heap Gc.block
           obtain ⟨cur, hl1, hl2⟩ := Gc.list
           have cl : wx.cell? ⟨bl, p, none⟩ = some (.pointer (some ⟨bp p, 0, none⟩)) := by rw [Lib.cell_of_heap hl1]; exact hl2 p hp3
           have lz := lt_of_heap hl1
           have y0 : wx.cell? ⟨w4.heap.size, 0, none⟩ = some (.string PK) := by rw [Lib.cell_of_heap hbox]; rfl
           have yz := lt_of_heap hbox
           have hplen : md.o.packet.length ≤ 100 := by rw [packet_length, hR.seen]; split <;> omega
           obtain ⟨W2, hW2⟩ : ∃ W2, W2 = (wx.alloc (.cells #[.string PK] 9)).drew := ⟨_, rfl⟩
           have hk2 : Kept (fun _ => False) wx W2 := by rw [hW2]; exact ((Kept.refl _ wx).alloc _).drew
           have hb2 : W2.heap[wx.heap.size]? = some (.cells #[.string PK] 9 (0, 0)) := by rw [hW2]; exact heap_alloc_new wx _
           have hrc := receive_any (ss p) 3 (bp p) (Fs p) [md.o.packet] (some ⟨wx.heap.size, 0, none⟩) 1 W2 ((Gc.peers p hp3).quiet hk2) (O4.fit p hp3) (by have := O4.size p hp3; simp; omega)
             (fun _ => ⟨wx.heap.size, rfl, fun q l hq => by
               cases q with
               | zero => simp at hq; subst hq; rw [Lib.cell_of_heap hb2, HPK.out]; rfl
               | succ q => simp at hq⟩)
             (fun ad had hf => by cases had; have := (Gc.peers p hp3).lt _ hf; exact absurd this (Nat.lt_irrefl _))
           have hone : recvAllF 3 (ss p) [md.o.packet] = (ss p).oneF md.o := by
             have h1 := recvF_packet hR (ss p)
             unfold recvAllF
             rw [h1]
             split
             · rename_i h
               show (((ss p).oneF md.o).1, ((ss p).oneF md.o).2.1 + 0, (0 : Int)) = _
               rw [Nat.add_zero, ← h]
             · rfl
           rw [hone] at hrc
           obtain ⟨O5, q⟩ := O4.hear hp3 hmH
           obtain ⟨nn, hnn⟩ : ∃ nn, ((ss p).oneF md.o).2.1 = nn := ⟨_, rfl⟩
           obtain ⟨ee, hee⟩ : ∃ ee, ((ss p).oneF md.o).2.2 = ee := ⟨_, rfl⟩
           obtain ⟨s', hs'⟩ : ∃ s', ((ss p).oneF md.o).1 = s' := ⟨_, rfl⟩
           rw [hnn, hee, hs'] at hrc q
           rw [hs'] at O5
           have hnn17 : nn ≤ 17 := by rw [← hnn]; exact (oneF_fit (O4.fit p hp3) hR).2.2
           have HW2 : Hid (W2 = (wx.alloc (.cells #[.string PK] 9)).drew) := hW2
           have HC : Hid (GSt (fun b => w.heap.size ≤ b ∧ (b < wo.heap.size ∨ w4.heap.size ≤ b)) W2 bg bl lc bp ss Fs (.slice (some ⟨gp, 0, none⟩) mds.length cpv) mds count ∧ GOk (k + 1) ((mds.map Mk.o).reverse) (upd ss p s') count ∧ OneOk 3 ((mds.map Mk.o).reverse) (ss p) md.o s' nn ee ∧ Kept (fun _ => False) w4 W2 ∧ W2.heap[w4.heap.size]? = some (.cells #[.string PK, .int .i64 md.o.peer, .int .i64 md.o.num, .slice (some ⟨md.kb, 0, none⟩) 3 md.kc] 51 (0, 0))) := ⟨Gc.quiet hk2, O5, q, hkc.trans' hk2, hk2.heap hbox (fun h => h)⟩
           clear hl1 hl2 G4 O4 hone hnn hee hs' hW2 hb2 hk2 Gc O5 q hbox
           go_wp2_with fail
           go_cut [12, 13] (fun nv ev wd => nv = .int .i64 nn ∧ ev = .int .i64 ee ∧ Turn (bp p) (Fs p) W2 wd s')
           case first =>
             as_aux_lemma =>
               refine wp_region_four 7 9 1 ((wx.alloc (.cells #[.string PK] 9)).drew) (.slice (some ⟨wx.heap.size, 0, none⟩) 1 1) (by kernel_rfl) (by kernel_rfl) rfl ?_
               simp only [List.take_succ_cons, List.take_zero, List.drop_succ_cons, List.drop_zero]
               change wpTwo _ _ (World.drew _) _ _ _ _
               refine two_next (.pointer (some ⟨bg, 0, none⟩)) rfl (fun K hK => ?_) (fun K hK => ?_)
               case' refine_2 => go_simp; exact hK _ rfl
               go_simp
               refine hK _ rfl ?_
               clear hK K
               refine two_next (.pointer (some ⟨bg, 0, none⟩)) rfl (fun K hK => ?_) (fun K hK => ?_)
               case' refine_2 => go_simp; exact hK _ rfl
               go_simp
               refine hK _ rfl ?_
               clear hK K
               refine two_next (.pointer (some ⟨bg, 0, none⟩)) rfl (fun K hK => ?_) (fun K hK => ?_)
               case' refine_2 => go_simp; exact hK _ rfl
               go_simp
               refine hK _ rfl ?_
               clear hK K
               refine two_next (.slice (some ⟨bl, 0, none⟩) 3 lc) rfl (fun K hK => ?_) (fun K hK => ?_)
               case' refine_2 => go_simp; exact hK _ rfl
               go_simp
               refine hK _ rfl ?_
               clear hK K
               refine two_next (.int .i64 p) rfl (fun K hK => ?_) (fun K hK => ?_)
               case' refine_2 => go_simp; exact hK _ rfl
               go_simp
               refine hK _ rfl ?_
               clear hK K
               refine two_next (.pointer (some ⟨bl, p, none⟩)) rfl (fun K hK => ?_) (fun K hK => ?_)
               case' refine_2 => go_simp; exact hK _ rfl
               go_simp
               refine hK _ rfl ?_
               clear hK K
               refine two_next (.pointer (some ⟨bp p, 0, none⟩)) rfl (fun K hK => ?_) (fun K hK => ?_)
               case' refine_2 => go_simp; exact hK _ rfl
               go_simp
               refine hK _ rfl ?_
               clear hK K
               refine two_nil ?_
               change wpStill _ _ (World.drew _) _ _ _
               repeat still_step
               refine wpStill_nil ⟨⟨rfl, ?_⟩, ?_⟩
               · show Sem.run _ _ (World.drew wx) = _
                 go_simp
                 try rfl
               · rw [← HW2.out]
                 go_wp2_with fail
                 refine hrc.mono ?_
                 rintro e6 w6 ⟨rfl, hT⟩
                 go_wp2_with fail
                 change wpStill _ _ _ _ _ _
                 repeat still_step
                 refine wpStill_nil ?_
                 go_wp2_with fail
                 go_meet
                 exact ⟨rfl, rfl, hT⟩
           case rest =>
             obtain ⟨rfl, rfl, hT⟩ := hcut
             clear hrc c0 cl cz lz y0 yz
             obtain ⟨G2, O5, q, hk42, hbx2⟩ := HC.out
             obtain ⟨G4, O4, hK4, hsb4, hca4, z1, z2, hS⟩ := H4.out
             obtain ⟨Fs5, G5, K5, K5F, _⟩ := G2.turn (fun b hb => ⟨Nat.le_trans hK4.size (Nat.le_trans hk42.size hb), Or.inr (Nat.le_trans hk42.size hb)⟩) hp3 hT
             have hnF : ∀ b, wo.heap.size ≤ b → ¬ Fs p b := fun b hb hf => by
               have h1 := (G4.base.2.2.1 p hp3 b hf).2
               have h2 := (G4.peers p hp3).lt b hf
               omega
             have hca5 := K5F.heap (hk42.heap hca4 (fun h => h)) (hnF _ (by omega))
             have hbx5 := K5F.heap hbx2 (hnF _ (by omega))
             have hK5 : Kept (fun _ => False) w wc := (hK4.trans' hk42).trans K5 (fun i hi h => by have := h.1; omega)
             have c0 : wc.cell? ⟨bg, 0, none⟩ = some (.slice (some ⟨bl, 0, none⟩) 3 lc) := by rw [Lib.cell_of_heap G5.block]; rfl
             have cz := lt_of_heap G5.block
             obtain ⟨cur, hl1, hl2⟩ := G5.list
             have cl : ∀ j, j < 3 → wc.cell? ⟨bl, j, none⟩ = some (.pointer (some ⟨bp j, 0, none⟩)) := fun j hj => by rw [Lib.cell_of_heap hl1]; exact hl2 j hj
             have clp := cl p hp3
             have lz := lt_of_heap hl1
             have hkb := known_pm (upd ss p s' p) 3 (bp p) (Fs5 p) wc (G5.peers p hp3) (O5.fit p hp3)
             rw [upd_same] at hkb
             have hfs := O5.fit p hp3
             rw [upd_same] at hfs
             have hl3 := hfs.len
             have HG5 : Hid (GSt (fun b => w.heap.size ≤ b) wc bg bl lc bp (upd ss p s') Fs5 (.slice (some ⟨gp, 0, none⟩) mds.length cpv) mds count ∧ GOk (k + 1) ((mds.map Mk.o).reverse) (upd ss p s') count ∧ Kept (fun _ => False) w wc ∧ OneOk 3 ((mds.map Mk.o).reverse) (ss p) md.o s' nn ee ∧ Fit 3 s' ∧ Fit 3 (ss p)) := ⟨G5.mono (fun b h => h.1), O5, hK5, q, hfs, O4.fit p hp3⟩
             have hw5 : ee = 0 ∨ ee = 5 := by
               rcases q.which with h | ⟨h, _⟩
               · exact Or.inl h
               · exact Or.inr h
             clear G2 O5 q hbx2 G4 O4 G5 K5 K5F hT hl1 hl2 hfs hsb4 hca4 hnF
             go_wp2_with fail
             refine hkb.mono ?_
             rintro e8 w8 ⟨rfl, hcn, hk8⟩
             have hca8 := hk8.heap hca5 (fun h => h)
             have hbx8 := hk8.heap hbx5 (fun h => h)
             have hfw := sum_fits _ hkn3 HG5.out.2.2.2.2.2.known
             have hs1 : ∀ W', Kept (fun _ => False) w8 W' → Calls Try.prog 22 #[.slice (some ⟨wc.heap.size, 0, none⟩) 3 3] W' fun e' w' => e' = .returned (.int .i64 (s'.known.sum : Nat)) ∧ w' = W' := fun W' hW' => by
               have := ksum_any wc.heap.size 3 s'.known W' (by rw [hl3]; decide) HG5.out.2.2.2.2.1.known (fun i n hi => by rw [Lib.cell_of_heap (hW'.heap hcn (fun h => h)), i64s_at, hi]; rfl)
               rw [hl3] at this; exact this
             have hs2 : ∀ W', Kept (fun _ => False) w8 W' → Calls Try.prog 22 #[.slice (some ⟨W.heap.size, 0, none⟩) 3 3] W' fun e' w' => e' = .returned (.int .i64 ((ss p).known.sum : Nat)) ∧ w' = W' := fun W' hW' => by
               have := ksum_any W.heap.size 3 (ss p).known W' (by rw [hkn3]; decide) HG5.out.2.2.2.2.2.known (fun i n hi => by rw [Lib.cell_of_heap (hW'.heap hca8 (fun h => h)), i64s_at, hi]; rfl)
               rw [hkn3] at this; exact this
             rw [HG5.out.2.2.2.1.sum] at hs1
             obtain ⟨sw, hsw⟩ : ∃ sw, (ss p).known.sum = sw := ⟨_, rfl⟩
             rw [hsw] at hs1 hs2 hfw
             have hsI : ((sw + nn : Nat) : Int) = (sw : Int) + (nn : Int) := by omega
             rw [hsI] at hs1
             clear hsI hsw
             rw [hl3]
             clear hkb c0 clp cz lz
             have HL8 : Hid (w8.heap[wc.heap.size]? = some (.cells (i64s s'.known) 3 (0, 0)) ∧ w8.heap[W.heap.size]? = some (.cells (i64s (ss p).known) 3 (0, 0)) ∧ w8.heap[w4.heap.size]? = some (.cells #[.string PK, .int .i64 md.o.peer, .int .i64 md.o.num, .slice (some ⟨md.kb, 0, none⟩) 3 md.kc] 51 (0, 0)) ∧ Kept (fun _ => False) wc w8) := ⟨hcn, hca8, hbx8, hk8⟩
             clear hcn hca8 hbx8 hk8 hca5 hbx5
             obtain ⟨kq, hkq⟩ : ∃ kq, (ss p).k md.o.peer = kq := ⟨_, rfl⟩
             have hkqf : kq < 4294967296 := by rw [← hkq]; exact HG5.out.2.2.2.2.2.k md.o.peer
             have hpr := hR.peer
             have hpri : (md.o.peer : Int) < 3 := by omega
             have m0 : w8.cell? ⟨W.heap.size, md.o.peer, none⟩ = some (.int .i64 (kq : Int)) := by
               rw [Lib.cell_of_heap HL8.out.2.1, i64s_at, List.getElem?_eq_getElem (by rw [hkn3]; exact hpr), ← hkq]
               unfold Pr.k
               rw [List.getD_eq_getElem?_getD, List.getElem?_eq_getElem (by rw [hkn3]; exact hpr)]; rfl
             have m1 : w8.cell? ⟨w4.heap.size, 1, none⟩ = some (.int .i64 md.o.peer) := by rw [Lib.cell_of_heap HL8.out.2.2.1]; rfl
             have m2 : w8.cell? ⟨w4.heap.size, 2, none⟩ = some (.int .i64 md.o.num) := by rw [Lib.cell_of_heap HL8.out.2.2.1]; rfl
             have mz0 := lt_of_heap HL8.out.2.1
             have mz1 := lt_of_heap HL8.out.2.2.1
             have mz2 := lt_of_heap HL8.out.1
             have HKQ : Hid ((ss p).k md.o.peer = kq) := hkq
             clear hkq
             obtain ⟨wy, hwy⟩ : ∃ x, x = wc := ⟨_, rfl⟩
             subst hwy
             go_upto_region 19 with fail
             go_cut [153] (fun v wd => v = .bool false ∧ wd = w8)
             case first =>
               as_aux_lemma =>
                 rcases hw5 with hw5 | hw5
                 all_goals
                   subst hw5
                   go_wp2_with fail
                   refine (hs1 _ (Kept.refl _ _)).mono ?_
                   rintro e9 w9 ⟨rfl, hw9⟩
                   rw [hw9]
                   clear hw9
                   go_wp2_with fail
                   refine (hs2 _ (Kept.refl _ _)).mono ?_
                   rintro e10 w10 ⟨rfl, hw10⟩
                   rw [hw10]
                   clear hw10
                   go_wp2_with fail
                   go_meet
                   exact ⟨rfl, rfl⟩
             case rest =>
               obtain ⟨rfl, hwc8⟩ := hcut
               rw [hwc8]
               clear hwc8 hs1 hs2
               go_wp2_with fail
               go_cut [181] (fun v wd => v = .bool false ∧ Kept (fun _ => False) w8 wd)
               case first =>
                 as_aux_lemma =>
                   by_cases hold : md.o.num ≤ kq
                   · obtain ⟨o1, o2, o3⟩ := HG5.out.2.2.2.1.old (by rw [HKQ.out]; exact hold)
                     first
                       | (subst o1
                          subst o2
                          have hle : decide ((md.o.num : Int) ≤ (kq : Int)) = true := by rw [decide_eq_true_iff]; omega
                          have hle2 : (md.o.num : Int) ≤ (kq : Int) := by omega
                          have htx : ∀ d os, Calls Try.prog 17 #[.pointer (some ⟨bp p, 0, none⟩)] (grow (redrawn w8 d) os) fun e w'' => e = .returned (.string S) ∧ ∃ p : Regrown, w'' = grow (redrawn w8 p.d) p.os := fun d os => by
                            have hk0 := Kept.of_below_all (below_regrown w8 d os)
                            have hPM := (HG5.out.1.peers p hp3).quiet (HL8.out.2.2.2.trans' hk0)
                            rw [upd_same, o3] at hPM
                            have hSS := H4.out.2.2.2.2.2.2.2
                            refine Calls.regrown_of ((text_pm (ss p) (bp p) (Fs5 p) _ hPM (by have := H4.out.2.1.size p hp3; unfold psize at this; omega) HG5.out.2.2.2.2.2.row).mono (fun e w' ⟨h1, h2⟩ => ⟨by rw [h1, hSS], h2.below _ (Nat.le_refl _) (fun _ h => h.elim)⟩))
                          have c0 := HL8.out.2.2.2.cell' (p := ⟨bg, 0, none⟩) (v := .slice (some ⟨bl, 0, none⟩) 3 lc) (by rw [Lib.cell_of_heap HG5.out.1.block]; rfl) (fun h => h)
                          have clp := HL8.out.2.2.2.cell' (cl p hp3) (fun h => h)
                          have y0 := cell_regrown m0
                          have y1 := cell_regrown m1
                          have y2 := cell_regrown m2
                          have y3 := cell_regrown c0
                          have y4 := cell_regrown clp
                          clear o3
                          refine wp_region_quiet_below (by kernel_rfl) (by kernel_rfl) ?_
                          repeat (go_big_quiet_step (exact htx _ _))
                          refine wpQuiet_nil ?_
                          intro _ hw'
                          obtain ⟨⟨dq, osq⟩, hw''⟩ := hw'
                          subst hw''
                          go_wp2_with fail
                          go_meet
                          exact ⟨rfl, Kept.of_below_all (below_regrown w8 dq osq)⟩)
                   · have hle : decide ((md.o.num : Int) ≤ (kq : Int)) = false := by rw [decide_eq_false_iff_not]; omega
                     have hle2 : ¬ (md.o.num : Int) ≤ (kq : Int) := by omega
                     go_quiet (fail)
                     go_wp2_with fail
                     go_meet
                     exact ⟨rfl, (Kept.refl _ _).drewN _⟩
               case rest =>
                 obtain ⟨rfl, hk9⟩ := hcut
                 have hK9 : Kept (fun _ => False) wy wc := HL8.out.2.2.2.trans' hk9
                 have hcn9 := hk9.heap HL8.out.1 (fun h => h)
                 have hca9 := hk9.heap HL8.out.2.1 (fun h => h)
                 clear m0 m1 m2 mz0 mz1 mz2
                 have HLc : Hid (wc.heap[wy.heap.size]? = some (.cells (i64s s'.known) 3 (0, 0)) ∧ wc.heap[W.heap.size]? = some (.cells (i64s (ss p).known) 3 (0, 0)) ∧ Kept (fun _ => False) wy wc) := ⟨hcn9, hca9, hK9⟩
                 clear hcn9 hca9 hk9
                 go_wp2
                 obtain ⟨wz, hwz⟩ : ∃ x, x = wc := ⟨_, rfl⟩
                 subst hwz
                 go_loopw [15] (fun jv wj => ∃ j' : Nat, j' ≤ 3 ∧ jv = .int .i64 j' ∧ Kept (fun _ => False) wz wj) (fun jv _ => 3 - (intOf jv).toNat)
                 case atStart => exact ⟨0, by omega, rfl, Kept.refl _ _⟩
                 case round =>
                   obtain ⟨j', hj3, rfl, hKj⟩ := hrel
                   by_cases hj : j' < 3
                   · have hji : (j' : Int) < 3 := by omega
                     have hKyj : Kept (fun _ => False) wy wr := hK9.trans' hKj
                     have d0 := hKyj.cell' (p := ⟨bg, 0, none⟩) (v := .slice (some ⟨bl, 0, none⟩) 3 lc) (by rw [Lib.cell_of_heap HG5.out.1.block]; rfl) (fun h => h)
                     have d1 := hKyj.cell' (cl j' hj) (fun h => h)
                     have d0z := World.block_lt_of_cell? wr _ d0
                     have d1z := World.block_lt_of_cell? wr _ d1
                     have hko := known_pm (upd ss p s' j') 3 (bp j') (Fs5 j') wr ((HG5.out.1.peers j' hj).quiet hKyj) (HG5.out.2.1.fit j' hj)
                     go_wp2_with fail
                     refine hko.mono ?_
                     rintro e11 w11 ⟨rfl, hco, hk11⟩
                     have hlo := (HG5.out.2.1.fit j' hj).len
                     have hat3 : ∀ (t : Pr), t.known.length = 3 → (i64s t.known)[j']? = some (.int .i64 (t.k j' : Nat)) := fun t ht => by
                       rw [i64s_at, List.getElem?_eq_getElem (by rw [ht]; exact hj)]
                       unfold Pr.k
                       rw [List.getD_eq_getElem?_getD, List.getElem?_eq_getElem (by rw [ht]; exact hj)]; rfl
                     obtain ⟨vn, hvn⟩ : ∃ vn, s'.k j' = vn := ⟨_, rfl⟩
                     obtain ⟨vw, hvw⟩ : ∃ vw, (ss p).k j' = vw := ⟨_, rfl⟩
                     obtain ⟨vo, hvo⟩ : ∃ vo, (upd ss p s' j').k j' = vo := ⟨_, rfl⟩
                     have f0 : w11.cell? ⟨wy.heap.size, j', none⟩ = some (.int .i64 (vn : Int)) := by rw [Lib.cell_of_heap (hk11.heap (hKj.heap HLc.out.1 (fun h => h)) (fun h => h)), hat3 s' hl3, hvn]
                     have f1 : w11.cell? ⟨W.heap.size, j', none⟩ = some (.int .i64 (vw : Int)) := by rw [Lib.cell_of_heap (hk11.heap (hKj.heap HLc.out.2.1 (fun h => h)) (fun h => h)), hat3 (ss p) hkn3, hvw]
                     have f2 : w11.cell? ⟨wr.heap.size, j', none⟩ = some (.int .i64 (vo : Int)) := by rw [Lib.cell_of_heap hco, hat3 _ hlo, hvo]
                     have f0z := World.block_lt_of_cell? w11 _ f0
                     have f1z := World.block_lt_of_cell? w11 _ f1
                     have f2z := World.block_lt_of_cell? w11 _ f2
                     have g1 : vw ≤ vn := by rw [← hvn, ← hvw]; exact HG5.out.2.2.2.1.grow j'
                     have g2 : vn ≤ vo := by
                       rw [← hvn, ← hvo]
                       have h1 := HG5.out.2.2.2.1.ok.1.view.le j'
                       have h2 := (HG5.out.2.1.ok j' hj).1.own
                       rw [HG5.out.2.1.me j' hj] at h2
                       rw [h2]; exact h1
                     have g1i : ¬ (vn : Int) < (vw : Int) := by omega
                     have g2i : ¬ (vo : Int) < (vn : Int) := by omega
                     have g1d : decide ((vn : Int) < (vw : Int)) = false := by rw [decide_eq_false_iff_not]; exact g1i
                     have g2d : decide ((vo : Int) < (vn : Int)) = false := by rw [decide_eq_false_iff_not]; exact g2i
                     have g1n : ¬ vn < vw := by omega
                     have g2n : ¬ vo < vn := by omega
                     have g1e : decide (vn < vw) = false := by rw [decide_eq_false_iff_not]; exact g1n
                     have g2e : decide (vo < vn) = false := by rw [decide_eq_false_iff_not]; exact g2n
                     have hK11 : Kept (fun _ => False) wz w11 := hKj.trans' hk11
                     rw [hlo]
                     clear hko hco hvn hvw hvo hat3 d0 d1 g1 g2
                     go_wp2
                     go_quiet (fail)
                     go_wp2
                     go_roundw
                     case rel => exact ⟨j' + 1, by omega, by go_num, hK11.drewN _⟩
                     case measure => simp [intOf]; omega
                   · go_wp2
                     go_roundw
                     case rel => exact ⟨k + 1, upd ss p s', Fs5, _, mds, count, by omega, by omega, by go_num, HG5.out.1.quiet (hK9.trans' hKj), HG5.out.2.1, HG5.out.2.2.1.trans' (hK9.trans' hKj)⟩
                     case measure => simp [intOf]; omega
    · by_cases h1 : k < n
      · have h2 : ¬ (k : Int) < 60 := by omega
        have h3 : decide ((k : Int) < 60) = false := by rw [decide_eq_false_iff_not]; exact h2
        have h4 : (k : Int) < (n : Int) := by omega
        have h5 : ¬ k < 60 := by omega
        clear hlt
        go_wp2
        all_goals go_ret
        all_goals exact ⟨rfl, hK⟩
      · have h2 : ¬ (k : Int) < (n : Int) := by omega
        have h3 : decide ((k : Int) < (n : Int)) = false := by rw [decide_eq_false_iff_not]; exact h2
        clear hlt
        go_wp2
        all_goals go_ret
        all_goals exact ⟨rfl, hK⟩

end Go.Proofs.Ytgfafbanahiigaa
