import Derived.Test.YtgfafbanahiigaaGreatV13
import Derived.Test.YtgfafbanahiigaaGreatHE
set_option linter.unusedVariables false
set_option linter.unusedSimpArgs false
namespace Go.Proofs.YtgfafbanahiigaaGreat
open Go.RowKit Go.Chorus
theorem packet_any' (kd p n c ch : Nat) (kdI nI cI chI : Int) (hkI : kdI = kd) (hnI : nI = n) (hcI : cI = c) (hchI : chI = ch) (seen : List Nat) (bs scap : Nat) (tc tp : Nat) (w : World) (hkd : kd = 1 ∨ kd = 2) (hp : p < 256) (hn : n < 4294967296) (hc : c < 4294967296) (htc : tc < 4294967296) (htp : tp < 256) (hch : ch ≤ 1114111)
  (hsl : seen.length ≤ 8) (hsf : ∀ x ∈ seen, x < 4294967296) (hs : ∀ (i x : Nat), seen[i]? = some x → w.cell? ⟨bs, i, none⟩ = some (.int .u32 (x : Int))) :
  Calls Tryz.prog 55 #[.agg #[.int .u8 kdI, .int .u8 p, .int .u32 nI, .int .u32 cI, .slice (some ⟨bs, 0, none⟩) seen.length scap, .int .u32 tc, .int .u8 tp, .int .i32 chI]] w fun e' w' =>
   e' = .returned (.string ⟨(packetOf kd p n c seen tc tp ch).toArray⟩) ∧ Kept (fun _ => False) w w' := by
 subst hkI; subst hnI; subst hcI; subst hchI
 exact packet_any kd p n c seen bs scap tc tp ch w hkd hp hn hc htc htp hch hsl hsf hs
theorem deliver_any' (s : Pr) (o : Ope) (N : Nat) (bp : Nat) (bk : Log) (rv hv : Value) (g cap sl : Nat) (kdI pI nI cI tcI tpI chI : Int) (w : World) (h : PeerS w bp s bk rv hv) (hh : ∀ b, hv.ownBlock = some b → b < w.heap.size) (hm : SeenAt w ⟨o, g, cap⟩) (hf : Fit N s) (ho : RightOp N o) (hn : s.row.length ≤ 4294967295) (hx : s.k o.peer < 4294967295)
  (hkI : kdI = o.kind) (hpI : pI = o.peer) (hnI : nI = o.num) (hcI : cI = o.clock) (hsl : sl = o.seen.length) (htc : tcI = o.nclock) (htp : tpI = o.npeer) (hch : chI = o.char) :
  Calls Tryz.prog 58 #[.pointer (some ⟨bp, 0, none⟩), .agg #[.int .u8 kdI, .int .u8 pI, .int .u32 nI, .int .u32 cI, .slice (some ⟨g, 0, none⟩) sl cap, .int .u32 tcI, .int .u8 tpI, .int .i32 chI]] w fun e' w' =>
   e' = .returned (.tuple #[]) ∧ ∃ bk' rv', PeerS w' bp (s.apply o) bk' rv' hv ∧ Kept (Foot bp bk rv) w w' ∧ (∀ k, Foot bp bk' rv' k → Foot bp bk rv k ∨ w.heap.size ≤ k) ∧ (∀ k, bk'.Seen k → bk.Seen k ∨ k = g) := by
 subst hkI; subst hpI; subst hnI; subst hcI; subst hsl; subst htc; subst htp; subst hch
 exact deliver_any s o N bp bk rv hv g cap w h hh hm hf ho hn hx
set_option maxHeartbeats 2000000 in
set_option maxRecDepth 100000 in
theorem perform_any (s : Pr) (N : Nat) (bp : Nat) (F : Nat → Prop) (ins : Bool) (kd : Nat) (hkd : kd = if ins then 1 else 2) (tc tp ch : Nat) (w : World) (h : PM w bp s F) (hf : Fit N s) (hn : psize s < 4294967295) (hx2 : s.k s.me < 400) (hcl : s.clock < 4294967295) (hRO : RightOp N (s.makes ins (tc, tp) ch)) :
  Calls Tryz.prog 45 #[.pointer (some ⟨bp, 0, none⟩), .agg #[.int .u8 kd, .int .u8 0, .int .u32 0, .int .u32 0, .slice none 0 0, .int .u32 tc, .int .u8 tp, .int .i32 ch]] w fun e' w' =>
   e' = .returned (.tuple #[.string ⟨(s.makes ins (tc, tp) ch).packet.toArray⟩, .int .i64 0]) ∧ Turn bp F w w' (s.deliverF (s.makes ins (tc, tp) ch)).1 := by
 obtain ⟨bk, rv, hv, ms, P, H, ho, rfl⟩ := h
 obtain ⟨c0, c1, c2, c3, c4⟩ := P.cells
 have hbw := lt_of_heap P.block
 have hkl : s.known.length ≤ 8 := by rw [hf.len]; exact hf.n8
 have hpl : s.me < s.known.length := by rw [hf.len]; exact hf.me
 obtain ⟨x, hxe⟩ : ∃ x, s.k s.me = x := ⟨_, rfl⟩
 have hx : s.known[s.me]? = some x := by rw [← hxe]; unfold Pr.k; rw [List.getD_eq_getElem?_getD, List.getElem?_eq_getElem hpl]; rfl
 rw [hxe] at hx2
 have hct := fun W' (hW' : Kept (fun _ => False) w W') => hCount_log bp 2 s.known.length s.me x bk s.known W' (hW'.cell' c2 (fun h => h)) (P.log.quiet hW') hx (by omega)
 have hcs := fun W' (hW' : Kept (fun _ => False) w W') => hCounts_log bp 2 s.known.length bk s.known W' (hW'.cell' c2 (fun h => h)) (P.log.quiet hW') hkl hf.known
 have hpl2 : (s.me : Int) < (s.known.length : Int) := by omega
 have HXE : Hid (s.k s.me = x) := hxe
 have HKD : Hid (kd = if ins then 1 else 2) := hkd
 have hkd1 : kd = 1 ∨ kd = 2 := by rw [hkd]; cases ins <;> simp
 have HP : Hid (PeerS w bp s bk rv hv ∧ HeldAt w hv ms ∧ ms.map MOp.o = s.held) := ⟨P, H, ho⟩
 have HRO : Hid (RightOp N (s.makes ins (tc, tp) ch)) := hRO
 have hme8 : s.me < 8 := by omega
 have htc := hRO.name.1
 have htp : tp < 8 := by have := hRO.name.2; have := hf.n8; show tp < 8; have h2 : (s.makes ins (tc, tp) ch).npeer = tp := rfl; omega
 have hch : ch ≤ 1114111 := by
  have h1 := hRO.char
  have h2 : (s.makes ins (tc, tp) ch).char = ch := rfl
  rw [h2] at h1
  split at h1 <;> omega
 clear hx hxe hkd hRO ho
 go_enter Tryz.func45, Tryz.ntmps45
 go_wp2_with fail
 go_quiet (refine Calls.quiet_of_same (hct _ (((Kept.refl _ _).alloc _).drewN _)))
 go_wp2_with fail
 have hW0 : ∀ (ob : Obj) (v1 v2 v3 : Value), Kept (fun _ => False) w (((((w.alloc ob).drewN nq).setCell ⟨w.heap.size, 1, none⟩ v1).setCell ⟨w.heap.size, 2, none⟩ v2).setCell ⟨w.heap.size, 3, none⟩ v3) := fun ob v1 v2 v3 =>
  ((((Kept.refl (fun _ => False) w).alloc _).drewN _).setCell (p := ⟨w.heap.size, 1, none⟩) (fun h => absurd h (Nat.lt_irrefl _)) _ |>.setCell (p := ⟨w.heap.size, 2, none⟩) (fun h => absurd h (Nat.lt_irrefl _)) _ |>.setCell (p := ⟨w.heap.size, 3, none⟩) (fun h => absurd h (Nat.lt_irrefl _)) _)
 have hbx0 : ∀ (a0 a1 a2 a3 a4 a5 a6 a7 v1 v2 v3 : Value), (((((w.alloc (.cells #[a0, a1, a2, a3, a4, a5, a6, a7] 115)).drewN nq).setCell ⟨w.heap.size, 1, none⟩ v1).setCell ⟨w.heap.size, 2, none⟩ v2).setCell ⟨w.heap.size, 3, none⟩ v3).heap[w.heap.size]? = some (.cells #[a0, v1, v2, v3, a4, a5, a6, a7] 115 (0, 0)) := fun a0 a1 a2 a3 a4 a5 a6 a7 v1 v2 v3 => by
  have h0 : ((w.alloc (.cells #[a0, a1, a2, a3, a4, a5, a6, a7] 115)).drewN nq).heap[w.heap.size]? = some (.cells #[a0, a1, a2, a3, a4, a5, a6, a7] 115 (0, 0)) := ((Kept.refl (fun _ => False) _).drewN nq).heap (heap_alloc_new w _) (fun h => h)
  rw [heap_set_same (heap_set_same (heap_set_same h0 1 v1) 2 v2) 3 v3]
  rfl
 refine (hcs _ (hW0 _ _ _ _)).mono ?_
 rintro e1 w1 ⟨rfl, hN1, hk1⟩
 have hkw1 : Kept (fun _ => False) w w1 := (hW0 _ _ _ _).trans' hk1
 have hbox1 : w1.heap[w.heap.size]? = some (.cells #[.int .u8 kd, .int .u8 s.me, .int .u32 ((x : Int) + 1), .int .u32 ((s.clock : Int) + 1), .slice none 0 0, .int .u32 tc, .int .u8 tp, .int .i32 ch] 115 (0, 0)) := hk1.heap (hbx0 _ _ _ _ _ _ _ _ _ _ _) (fun h => h)
 have hb1 := (hW0 (.cells #[.int .u8 kd, .int .u8 0, .int .u32 0, .int .u32 0, .slice none 0 0, .int .u32 tc, .int .u8 tp, .int .i32 ch] 115) (.int .u8 s.me) (.int .u32 ((x : Int) + 1)) (.int .u32 ((s.clock : Int) + 1))).size
 obtain ⟨g1, hg1e⟩ : ∃ g1, (((((w.alloc (.cells #[.int .u8 kd, .int .u8 0, .int .u32 0, .int .u32 0, .slice none 0 0, .int .u32 tc, .int .u8 tp, .int .i32 ch] 115)).drewN nq).setCell ⟨w.heap.size, 1, none⟩ (.int .u8 s.me)).setCell ⟨w.heap.size, 2, none⟩ (.int .u32 ((x : Int) + 1))).setCell ⟨w.heap.size, 3, none⟩ (.int .u32 ((s.clock : Int) + 1))).heap.size = g1 := ⟨_, rfl⟩
 rw [hg1e] at hN1 hb1 ⊢
 have hgb1 := hN1
 obtain ⟨cur1, hcur1⟩ : ∃ cur1, u32s s.known = cur1 := ⟨_, rfl⟩
 have hcells1 : ∀ (i n : Nat), s.known[i]? = some n → cur1[i]? = some (.int .u32 (n : Int)) := fun i n hi => by rw [← hcur1, u32s_at, hi]; rfl
 rw [hcur1] at hgb1
 have hg1w : w.heap.size ≤ g1 := hb1
 have hg1b : g1 ≠ w.heap.size := by
  intro e; rw [e, hbox1] at hgb1; simp at hgb1
 obtain ⟨W, hW⟩ : ∃ W, W = w1.setCell ⟨w.heap.size, 4, none⟩ (.slice (some ⟨g1, 0, none⟩) s.known.length s.known.length) := ⟨_, rfl⟩
 have hkW : Kept (fun _ => False) w W := by rw [hW]; exact hkw1.setCell (fun h => absurd h (Nat.lt_irrefl _)) _
 have hboxW : W.heap[w.heap.size]? = some (.cells #[.int .u8 kd, .int .u8 s.me, .int .u32 ((x : Int) + 1), .int .u32 ((s.clock : Int) + 1), .slice (some ⟨g1, 0, none⟩) s.known.length s.known.length, .int .u32 tc, .int .u8 tp, .int .i32 ch] 115 (0, 0)) := by
  rw [hW, heap_set_same hbox1]; rfl
 have hgW : W.heap[g1]? = some (.cells cur1 63 (0, 0)) := by
  rw [hW, Below.heap_setCell _ _ _ _ hg1b]; exact hgb1
 have hzW := lt_of_heap hboxW
 have hgzW := lt_of_heap hgW
 have HW : Hid (W = w1.setCell ⟨w.heap.size, 4, none⟩ (.slice (some ⟨g1, 0, none⟩) s.known.length s.known.length)) := hW
 have y4 : w1.cell? ⟨w.heap.size, 4, none⟩ = some (.slice none 0 0) := by rw [Lib.cell_of_heap hbox1]; rfl
 have fz : ∀ j, w1.frozen? ⟨w.heap.size, j, none⟩ = false := Lib.frozen_of_heap hbox1
 have y0 : w1.cell? ⟨w.heap.size, 0, none⟩ = some (.int .u8 kd) := by rw [Lib.cell_of_heap hbox1]; rfl
 have y1 : w1.cell? ⟨w.heap.size, 1, none⟩ = some (.int .u8 s.me) := by rw [Lib.cell_of_heap hbox1]; rfl
 have y2 : w1.cell? ⟨w.heap.size, 2, none⟩ = some (.int .u32 ((x : Int) + 1)) := by rw [Lib.cell_of_heap hbox1]; rfl
 have y3 : w1.cell? ⟨w.heap.size, 3, none⟩ = some (.int .u32 ((s.clock : Int) + 1)) := by rw [Lib.cell_of_heap hbox1]; rfl
 have y5 : w1.cell? ⟨w.heap.size, 5, none⟩ = some (.int .u32 tc) := by rw [Lib.cell_of_heap hbox1]; rfl
 have y6 : w1.cell? ⟨w.heap.size, 6, none⟩ = some (.int .u8 tp) := by rw [Lib.cell_of_heap hbox1]; rfl
 have y7 : w1.cell? ⟨w.heap.size, 7, none⟩ = some (.int .i32 ch) := by rw [Lib.cell_of_heap hbox1]; rfl
 clear hW hk1 hN1 hbox1 hgb1 hkw1 c0 c1 c2 c3 c4 P H hct hcs hW0 hbx0 hg1e
 obtain ⟨o, hoe⟩ : ∃ o, s.makes ins (tc, tp) ch = o := ⟨_, rfl⟩
 have hok : o.kind = kd := by rw [← hoe, HKD.out]; rfl
 have hop : o.peer = s.me := by rw [← hoe]; rfl
 have hon : o.num = x + 1 := by rw [← hoe, ← HXE.out]; rfl
 have hoc : o.clock = s.clock + 1 := by rw [← hoe]; rfl
 have hos : o.seen = s.known := by rw [← hoe]; rfl
 have hot : o.nclock = tc := by rw [← hoe]; rfl
 have hoq : o.npeer = tp := by rw [← hoe]; rfl
 have hoh : o.char = ch := by rw [← hoe]; rfl
 have HRO2 := HRO.out
 rw [hoe] at HRO2
 have hdl := deliver_any' s o N bp bk rv hv g1 s.known.length s.known.length kd s.me ((x : Int) + 1) ((s.clock : Int) + 1) tc tp ch W (HP.out.1.quiet hkW) (HP.out.2.1.quiet hkW).lt ⟨cur1, hgW, fun i n hi => hcells1 i n (by rw [← hos]; exact hi)⟩ hf HRO2 (by unfold psize at hn; omega) (by rw [hop, HXE.out]; omega) (by rw [hok]) (by rw [hop]) (by rw [hon]; omega) (by rw [hoc]; omega) (by rw [hos]) (by rw [hot]) (by rw [hoq]) (by rw [hoh])
 have HO : Hid (s.makes ins (tc, tp) ch = o ∧ o.kind = kd ∧ o.peer = s.me ∧ o.num = x + 1 ∧ o.clock = s.clock + 1 ∧ o.seen = s.known ∧ o.nclock = tc ∧ o.npeer = tp ∧ o.char = ch ∧ RightOp N o) := ⟨hoe, hok, hop, hon, hoc, hos, hot, hoq, hoh, HRO2⟩
 clear hoe hok hop hon hoc hos hot hoq hoh HRO2
 go_wp2_with fail
 rw [← HW.out]
 refine hdl.mono ?_
 rintro e2 w2 ⟨rfl, bk2, rv2, P2, K2, B2, S2⟩
 have HW2 := HP.out.2.1.quiet hkW
 have H2 := HW2.foot (HP.out.1.quiet hkW) K2
 have hfoot : ∀ k, w.heap.size ≤ k → ¬ Foot bp bk rv k := fun k hk hf => by
  have := HP.out.1.lt.1 k hf; omega
 have hbox2 := K2.heap hboxW (hfoot _ (Nat.le_refl _))
 have hg2 := K2.heap hgW (hfoot _ hg1w)
 have hkn : o.num = s.k o.peer + 1 := by rw [HO.out.2.2.2.1, HO.out.2.2.1, HXE.out]
 have hdw := deliverWaiting_any (s.apply o) N bp bk2 rv2 hv ms w2 P2 H2 HP.out.2.2 (hf.apply HO.out.2.2.2.2.2.2.2.2.2 hkn) (by have := size_apply s o; omega)
 have HKN : Hid (o.num = s.k o.peer + 1) := hkn
 have HB2 : Hid (w2.heap[w.heap.size]? = some (.cells #[.int .u8 kd, .int .u8 s.me, .int .u32 ((x : Int) + 1), .int .u32 ((s.clock : Int) + 1), .slice (some ⟨g1, 0, none⟩) s.known.length s.known.length, .int .u32 tc, .int .u8 tp, .int .i32 ch] 115 (0, 0)) ∧ w2.heap[g1]? = some (.cells cur1 63 (0, 0))) := ⟨hbox2, hg2⟩
 have HK2 : Hid (Kept (Foot bp bk rv) W w2 ∧ (∀ k, Foot bp bk2 rv2 k → Foot bp bk rv k ∨ W.heap.size ≤ k) ∧ Kept (fun _ => False) w W ∧ ∀ k, bk2.Seen k → bk.Seen k ∨ k = g1) := ⟨K2, B2, hkW, S2⟩
 clear hkn P2 H2 K2 B2 S2 HW2 hbox2 hg2 hdl y0 y1 y2 y3 y4 y5 y6 y7 fz HW hkW hboxW hgW hfoot
 go_wp2_with fail
 refine hdw.mono ?_
 rintro e3 w3 ⟨rfl, bk3, rv3, hv3, ms3, d3, D3⟩
 have HT : Hid _ := turn_delivered HK2.out.2.2.1 HK2.out.1 HK2.out.2.1 HK2.out.2.2.2 hg1w D3
 have hbig : ∀ k, w.heap.size ≤ k → ¬ Wr bp bk2 rv2 hv k ∨ W.heap.size ≤ k := fun k hk => by
  by_cases hh : W.heap.size ≤ k
  ·exact Or.inr hh
  ·left
   rintro (h | h)
   ·rcases HK2.out.2.1 k h with h | h
    ·have := HP.out.1.lt.1 k h; omega
    ·omega
   ·have := (HP.out.2.1.row.lt k h).2; omega
 have hbox3 := D3.kept.heap HB2.out.1 (by
  rcases hbig w.heap.size (Nat.le_refl _) with h | h
  ·exact h
  ·omega)
 have hg3 := D3.kept.heap HB2.out.2 (by
  rcases hbig g1 hg1w with h | h
  ·exact h
  ·omega)
 have y0 : w3.cell? ⟨w.heap.size, 0, none⟩ = some (.int .u8 kd) := by rw [Lib.cell_of_heap hbox3]; rfl
 have y1 : w3.cell? ⟨w.heap.size, 1, none⟩ = some (.int .u8 s.me) := by rw [Lib.cell_of_heap hbox3]; rfl
 have y2 : w3.cell? ⟨w.heap.size, 2, none⟩ = some (.int .u32 ((x : Int) + 1)) := by rw [Lib.cell_of_heap hbox3]; rfl
 have y3 : w3.cell? ⟨w.heap.size, 3, none⟩ = some (.int .u32 ((s.clock : Int) + 1)) := by rw [Lib.cell_of_heap hbox3]; rfl
 have y4 : w3.cell? ⟨w.heap.size, 4, none⟩ = some (.slice (some ⟨g1, 0, none⟩) s.known.length s.known.length) := by rw [Lib.cell_of_heap hbox3]; rfl
 have y5 : w3.cell? ⟨w.heap.size, 5, none⟩ = some (.int .u32 tc) := by rw [Lib.cell_of_heap hbox3]; rfl
 have y6 : w3.cell? ⟨w.heap.size, 6, none⟩ = some (.int .u8 tp) := by rw [Lib.cell_of_heap hbox3]; rfl
 have y7 : w3.cell? ⟨w.heap.size, 7, none⟩ = some (.int .i32 ch) := by rw [Lib.cell_of_heap hbox3]; rfl
 have z3 := lt_of_heap hbox3
 have hpk := packet_any' kd s.me (x + 1) (s.clock + 1) ch kd ((x : Int) + 1) ((s.clock : Int) + 1) ch rfl (by omega) (by omega) rfl s.known g1 s.known.length tc tp w3 hkd1 (by omega) (by omega) (by omega) htc (by omega) hch hkl hf.known (fun i n hi => by rw [Lib.cell_of_heap hg3]; exact hcells1 i n hi)
 have HPK : Hid ((s.makes ins (tc, tp) ch).packet = packetOf kd s.me (x + 1) (s.clock + 1) s.known tc tp ch) := by
  obtain ⟨a0, a1, a2, a3, a4, a5, a6, a7, a8, _⟩ := HO.out
  show (s.makes ins (tc, tp) ch).packet = _
  rw [a0]
  unfold Ope.packet
  rw [a1, a2, a3, a4, a5, a6, a7, a8]
 have HD : Hid ((s.deliverF (s.makes ins (tc, tp) ch)).1 = (settleF (s.apply o).held.length (s.apply o)).1) := by
  show (s.deliverF (s.makes ins (tc, tp) ch)).1 = _
  rw [HO.out.1]; rfl
 clear hbox3 hg3 D3 hdw hbig HB2 hcells1
 go_wp2_with fail
 refine hpk.mono ?_
 rintro e4 w4 ⟨rfl, hk4⟩
 clear hpk y0 y1 y2 y3 y4 y5 y6 y7
 go_wp2
 go_ret2
 refine ⟨by rw [HPK.out]; rfl, ?_⟩
 rw [HD.out]
 exact Turn.quiet (w' := w3) HT.out hk4
end Go.Proofs.YtgfafbanahiigaaGreat
