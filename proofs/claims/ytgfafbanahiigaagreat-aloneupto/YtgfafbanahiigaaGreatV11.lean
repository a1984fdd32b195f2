import Derived.Test.YtgfafbanahiigaaGreatV10
import Derived.Deep.LoopGhost
import Derived.WalkMore
set_option linter.unusedVariables false
set_option linter.unusedSimpArgs false
namespace Go.Proofs.YtgfafbanahiigaaGreat
open Go.RowKit Go.Chorus
def Wr (bp : Nat) (bk : Log) (rv hv : Value) (k : Nat) : Prop := Foot bp bk rv k ∨ hv.ownBlock = some k
structure DSt (N : Nat) (s0 : Pr) (bp : Nat) (bk : Log) (F O : Nat → Prop) (w wr : World) (s : Pr) (d : Nat) (rv hv : Value) (ms : List MOp) : Prop where
 peer : PeerS wr bp s bk rv hv
 held : HeldAt wr hv ms
 ops : ms.map MOp.o = s.held
 fit : Fit N s
 size : psize s ≤ psize s0
 count : d + s.held.length ≤ s0.held.length
 res : (settleF s0.held.length s0).1 = (settleF s.held.length s).1
 num : (settleF s0.held.length s0).2 = d + (settleF s.held.length s).2
 kept : Kept F w wr
 ownF : ∀ k, Wr bp bk rv hv k → F k ∨ w.heap.size ≤ k
 own : ∀ k, Own bp bk rv hv ms k → O k ∨ w.heap.size ≤ k
theorem DSt.quiet {N : Nat} {s0 : Pr} {bp : Nat} {bk : Log} {F O : Nat → Prop} {w wr w' : World} {s : Pr} {d : Nat} {rv hv : Value} {ms : List MOp} (h : DSt N s0 bp bk F O w wr s d rv hv ms) (k : Kept (fun _ => False) wr w') : DSt N s0 bp bk F O w w' s d rv hv ms :=
 ⟨h.peer.quiet k, h.held.quiet k, h.ops, h.fit, h.size, h.count, h.res, h.num, h.kept.trans k (fun _ _ h => h.elim), h.ownF, h.own⟩
theorem settleF_none {s : Pr} (h : s.firstCan = none) (f : Nat) : settleF f s = (s, 0) := by
 cases f with
 | zero => rfl
 | succ f => unfold settleF; rw [h]
theorem settleF_some {s : Pr} {i : Nat} {o : Ope} (h : s.firstCan = some (i, o)) (f : Nat) : (settleF (f + 1) s).1 = (settleF f (({ s with held := s.held.eraseIdx i } : Pr).apply o)).1 ∧ (settleF (f + 1) s).2 = (settleF f (({ s with held := s.held.eraseIdx i } : Pr).apply o)).2 + 1 := by
 constructor
 ·conv => lhs; unfold settleF
  rw [h]
 ·conv => lhs; unfold settleF
  rw [h]
theorem firstGo_skip (s : Pr) (l : List Ope) (k : Nat) (hk : k ≤ l.length) (h : ∀ j o, j < k → l[j]? = some o → s.can o = false) : firstGo s l 0 = firstGo s (l.drop k) k := by
 induction k with
 | zero => rfl
 | succ k ih =>
  rw [ih (by omega) (fun j o hj => h j o (by omega))]
  obtain ⟨o, ho⟩ : ∃ o, l[k]? = some o := ⟨_, List.getElem?_eq_getElem (by omega)⟩
  rw [List.drop_eq_getElem_cons (by omega), (List.getElem?_eq_some_iff.1 ho).2]
  conv => lhs; unfold firstGo
  rw [h k o (by omega) ho]; rfl
theorem map_eraseIdx' {α β : Type} (f : α → β) (l : List α) (j : Nat) : (l.eraseIdx j).map f = (l.map f).eraseIdx j := by
 induction l generalizing j with
 | nil => rfl
 | cons a l ih =>
  cases j with
  | zero => rfl
  | succ j => simp [ih]
theorem firstCan_at (s : Pr) (j : Nat) (o : Ope) (ho : s.held[j]? = some o) (hall : ∀ (x : Nat) (o : Ope), x < j → s.held[x]? = some o → s.can o = false) (hc : s.can o = true) : s.firstCan = some (j, o) := by
 have hj : j < s.held.length := (List.getElem?_eq_some_iff.1 ho).1
 unfold Pr.firstCan
 rw [firstGo_skip s s.held j (by omega) (fun x o hx => hall x o hx), List.drop_eq_getElem_cons hj, (List.getElem?_eq_some_iff.1 ho).2]
 unfold firstGo
 rw [if_pos hc]
theorem firstCan_no (s : Pr) (hall : ∀ (x : Nat) (o : Ope), x < s.held.length → s.held[x]? = some o → s.can o = false) : s.firstCan = none := by
 unfold Pr.firstCan
 rw [firstGo_skip s s.held s.held.length (Nat.le_refl _) (fun x o hx => hall x o hx), List.drop_length]; rfl
theorem taken {N : Nat} {s : Pr} {bp : Nat} {bk : Log} {rv : Value} {g cp j : Nat} {ms : List MOp} {wo w1 w4 : World} {m : MOp} (P : PeerS wo bp s bk rv (.slice (some ⟨g, 0, none⟩) ms.length cp)) (H : HeldAt wo (.slice (some ⟨g, 0, none⟩) ms.length cp) ms)
  (ho : ms.map MOp.o = s.held) (hm : ms[j]? = some m) (K1 : Kept (fun _ => False) wo w1) (hown : w4.ownsRow 0 115 8 (.slice (some ⟨g, 0, none⟩) (ms.length - 1) cp) (ms.length - 1) (opsCells (ms.eraseIdx j))) (K4 : Kept (fun k => k = g) w1 w4) :
  let W5 := w4.setCell ⟨bp, 4, none⟩ (.slice (some ⟨g, 0, none⟩) (ms.length - 1) cp)
  PeerS W5 bp { s with held := s.held.eraseIdx j } bk rv (.slice (some ⟨g, 0, none⟩) (ms.length - 1) cp) ∧ HeldAt W5 (.slice (some ⟨g, 0, none⟩) (ms.length - 1) cp) (ms.eraseIdx j) ∧ Kept (fun k => k = g ∨ k = bp) wo W5 := by
 intro W5
 have hj : j < ms.length := (List.getElem?_eq_some_iff.1 hm).1
 have hel : (ms.eraseIdx j).length = ms.length - 1 := List.length_eraseIdx_of_lt hj
 have hgb : g ≠ bp := fun e => own_ne H.row P.block (by decide) (by rw [e]; rfl)
 have K14 : Kept (fun k => k = g) wo w4 := (K1.mono (fun _ _ h => h.elim)).trans' K4
 have K5 : Kept (fun k => k = bp) w4 W5 := Kept.setCell (S := fun k => k = bp) (Kept.refl _ w4) (p := ⟨bp, 4, none⟩) (fun _ => rfl) _
 have K : Kept (fun k => k = g ∨ k = bp) wo W5 := (K14.mono (fun _ _ h => Or.inl h)).trans K5 (fun _ _ h => Or.inr h)
 have hrg : ∀ b, rv.ownBlock = some b → ¬ (b = g ∨ b = bp) := by
  intro b hb e
  rcases e with e | e
  ·subst e
   exact (H.apart P).1 b rfl (Or.inr (Or.inr hb))
  ·subst e
   exact own_ne P.row P.block (by decide) hb
 refine ⟨⟨?_, P.log.keep K ?_ ?_, ownsRow_kept P.row K hrg, P.off, P.ops⟩, ⟨?_, ?_⟩, K⟩
 ·have hb4 := K14.heap P.block (fun e => hgb e.symm)
  show (w4.setCell _ _).heap[bp]? = _
  rw [heap_set_same hb4]; rfl
 ·rintro b hb (e | e)
  ·subst e
   exact (H.apart P).1 b rfl (Or.inr (Or.inl hb))
  ·subst e
   exact P.log.off P.block (by decide) (by decide) hb
 ·rintro b hb (e | e)
  ·subst e
   exact (H.apart P).2.2 b rfl hb
  ·subst e
   exact P.log.seenOff P.block (by decide) hb
 ·rw [hel]
  exact ownsRow_kept hown K5 (fun b hb e => by simp [Value.ownBlock] at hb; omega)
 ·intro q hq
  obtain ⟨cur, b, c⟩ := H.seen q (List.mem_of_mem_eraseIdx hq)
  refine ⟨cur, K.heap b ?_, c⟩
  rintro (e | e)
  ·exact own_ne H.row b (by decide) (by rw [e]; rfl)
  ·rw [e, P.block] at b; simp at b
theorem DSt.step {N : Nat} {s0 s : Pr} {bp : Nat} {bk : Log} {bk'' : Log} {F O : Nat → Prop} {rv rv'' : Value} {g cp j d : Nat} {ms : List MOp} {w wo w5 w6 : World} {m : MOp} (D : DSt N s0 bp bk F O w wo s d rv (.slice (some ⟨g, 0, none⟩) ms.length cp) ms) (hm : ms[j]? = some m)
  (hall : ∀ (x : Nat) (o : Ope), x < j → s.held[x]? = some o → s.can o = false) (hc : s.can m.o = true)
  (P5 : PeerS w5 bp { s with held := s.held.eraseIdx j } bk rv (.slice (some ⟨g, 0, none⟩) (ms.length - 1) cp)) (H5 : HeldAt w5 (.slice (some ⟨g, 0, none⟩) (ms.length - 1) cp) (ms.eraseIdx j)) (K5 : Kept (fun k => k = g ∨ k = bp) wo w5)
  (P6 : PeerS w6 bp (({ s with held := s.held.eraseIdx j } : Pr).apply m.o) bk'' rv'' (.slice (some ⟨g, 0, none⟩) (ms.length - 1) cp)) (K6 : Kept (Foot bp bk rv) w5 w6) (hb : ∀ k, Foot bp bk'' rv'' k → Foot bp bk rv k ∨ w5.heap.size ≤ k) (hbs : ∀ k, bk''.Seen k → bk.Seen k ∨ k = m.g) :
  DSt N s0 bp bk'' F O w w6 (({ s with held := s.held.eraseIdx j } : Pr).apply m.o) (d + 1) rv'' (.slice (some ⟨g, 0, none⟩) (ms.length - 1) cp) (ms.eraseIdx j) := by
 have hmo : s.held[j]? = some m.o := by rw [← D.ops, List.getElem?_map, hm]; rfl
 have hj : j < s.held.length := (List.getElem?_eq_some_iff.1 hmo).1
 have hel : (s.held.eraseIdx j).length = s.held.length - 1 := List.length_eraseIdx_of_lt hj
 have hR : RightOp N m.o := D.fit.held m.o (List.mem_of_getElem? hmo)
 have hfc := firstCan_at s j m.o hmo hall hc
 obtain ⟨f, hf⟩ : ∃ f, s.held.length = f + 1 := ⟨s.held.length - 1, by omega⟩
 have hs := settleF_some hfc f
 have hlen : (({ s with held := s.held.eraseIdx j } : Pr).apply m.o).held.length = f := by show (s.held.eraseIdx j).length = f; omega
 have hf1 : Fit N ({ s with held := s.held.eraseIdx j } : Pr) := ⟨D.fit.len, D.fit.n1, D.fit.n8, D.fit.me, D.fit.known, D.fit.clock, fun o ho => D.fit.held o (List.mem_of_mem_eraseIdx ho), by have := D.fit.most; show (s.held.eraseIdx j).length ≤ 16; omega, D.fit.row, D.fit.log⟩
 have hown : ∀ i, Wr bp bk rv (.slice (some ⟨g, 0, none⟩) ms.length cp) i → i < w.heap.size → F i := fun i hi hl => by
  rcases D.ownF i hi with h | h
  ·exact h
  ·omega
 refine ⟨P6, H5.foot P5 K6, ?_, hf1.apply hR ((can_iff s m.o).1 hc).1, ?_, ?_, ?_, ?_, ?_, ?_, ?_⟩
 ·show (ms.eraseIdx j).map MOp.o = s.held.eraseIdx j
  rw [map_eraseIdx', D.ops]
 ·have h1 := size_apply ({ s with held := s.held.eraseIdx j } : Pr) m.o
  have h2 := D.size
  unfold psize at h1 h2 ⊢
  have h3 : (({ s with held := s.held.eraseIdx j } : Pr)).held.length = s.held.length - 1 := hel
  rw [h3] at h1
  have h4 : (({ s with held := s.held.eraseIdx j } : Pr)).row = s.row := rfl
  rw [h4] at h1
  omega
 ·rw [hlen]; have := D.count; omega
 ·rw [hlen, ← hs.1, ← hf]; exact D.res
 ·rw [hlen, D.num, hf, hs.2]; omega
 ·refine D.kept.trans ((K5.mono (S' := Wr bp bk rv (.slice (some ⟨g, 0, none⟩) ms.length cp)) ?_).trans K6 ?_) (fun i hi h => hown i h hi)
  ·rintro k _ (rfl | rfl)
   ·exact Or.inr rfl
   ·exact Or.inl (Or.inl rfl)
  ·intro i _ hi; exact Or.inl hi
 ·have hsz : w.heap.size ≤ w5.heap.size := Nat.le_trans D.kept.size K5.size
  rintro k (hk | hk)
  ·rcases hb k hk with h | h
   ·exact D.ownF _ (Or.inl h)
   ·exact Or.inr (Nat.le_trans hsz h)
  ·exact D.ownF _ (Or.inr hk)
 ·have hsz : w.heap.size ≤ w5.heap.size := Nat.le_trans D.kept.size K5.size
  rintro k (hk | hk | ⟨q, hq, rfl⟩ | hk)
  ·rcases hb k hk with h | h
   ·exact D.own _ (Or.inl h)
   ·exact Or.inr (Nat.le_trans hsz h)
  ·exact D.own _ (Or.inr (Or.inl hk))
  ·exact D.own _ (Or.inr (Or.inr (Or.inl ⟨q, List.mem_of_mem_eraseIdx hq, rfl⟩)))
  ·rcases hbs k hk with h | h
   ·exact D.own _ (Or.inr (Or.inr (Or.inr h)))
   ·exact D.own _ (Or.inr (Or.inr (Or.inl ⟨m, List.mem_of_getElem? hm, h.symm⟩)))
set_option maxHeartbeats 2000000 in
set_option maxRecDepth 100000 in
theorem deliverWaiting_any (s : Pr) (N : Nat) (bp : Nat) (bk : Log) (rv hv : Value) (ms : List MOp) (w : World) (h : PeerS w bp s bk rv hv) (hh : HeldAt w hv ms) (ho : ms.map MOp.o = s.held) (hf : Fit N s) (hn : psize s ≤ 4294967295) :
  Calls Tryz.prog 59 #[.pointer (some ⟨bp, 0, none⟩)] w fun e' w' =>
   e' = .returned (.int .i64 ((settleF s.held.length s).2 : Nat)) ∧ ∃ bk' rv' hv' ms' d, DSt N s bp bk' (Wr bp bk rv hv) (Own bp bk rv hv ms) w w' (settleF s.held.length s).1 d rv' hv' ms' := by
 go_enter Tryz.func59, Tryz.ntmps59
 go_wp2
 go_step3
 go_wp2
 go_step3
 go_wp2
 have D0 : DSt N s bp bk (Wr bp bk rv hv) (Own bp bk rv hv ms) w w s 0 rv hv ms := ⟨h, hh, ho, hf, Nat.le_refl _, by omega, rfl, by omega, Kept.refl _ _, fun k hk => Or.inl hk, fun k hk => Or.inl hk⟩
 have hm0 := hf.most
 obtain ⟨n0, hn0⟩ : ∃ n0, s.held.length = n0 := ⟨_, rfl⟩
 go_loopg [3] n0 (fun k d wr => ∃ (s' : Pr) (d' : Nat) (bk' : Log) (rv' hv' : Value) (ms' : List MOp), d = .int .i64 d' ∧ s'.held.length = k ∧ DSt N s bp bk' (Wr bp bk rv hv) (Own bp bk rv hv ms) w wr s' d' rv' hv' ms')
 case atStart => exact ⟨s, 0, bk, rv, hv, ms, rfl, hn0, D0⟩
 case round =>
  obtain ⟨s', d', bk', rv', hv', ms', rfl, hk, D⟩ := hrel
  clear D0 h hh ho hf
  obtain ⟨c0, c1, c2, c3, c4⟩ := D.peer.cells
  have hbw := lt_of_heap D.peer.block
  obtain ⟨a, cp, rfl, he⟩ := opsV_of_own D.held.row
  have hml : Hid (ms'.length = gk) := by show ms'.length = gk; rw [← hk, ← D.ops, List.length_map]
  have HK : Hid (s'.held.length = gk) := hk
  clear hk
  have hmm : ms'.length ≤ 16 := by have := D.fit.most; rw [← D.ops, List.length_map] at this; exact this
  go_wp2
  obtain ⟨wo, hwo⟩ : ∃ x, x = wr := ⟨_, rfl⟩
  subst hwo
  obtain ⟨go, hgo⟩ : ∃ x, x = gk := ⟨_, rfl⟩
  subst hgo
  have hkn := D.peer.log
  go_loopg [3, 11] ms'.length (fun k d i wi => ∃ j : Nat, d = .int .i64 d' ∧ j ≤ ms'.length ∧ j + k = ms'.length ∧ i = .int .i64 j ∧ Hid (∀ (x : Nat) (o : Ope), x < j → s'.held[x]? = some o → s'.can o = false) ∧ Kept (fun _ => False) wo wi)
  case atStart => exact ⟨0, rfl, Nat.zero_le _, by omega, rfl, fun x o hx => absurd hx (Nat.not_lt_zero _), Kept.refl _ _⟩
  case round =>
   obtain ⟨j, rfl, hj, hjk, rfl, hall, hkp⟩ := hrel
   by_cases hlt : j < ms'.length
   ·obtain ⟨m, hek⟩ : ∃ m, ms'[j]? = some m := ⟨_, List.getElem?_eq_getElem hlt⟩
    obtain ⟨g, rfl, heg⟩ := he (by intro h; rw [h] at hlt; simp at hlt)
    obtain ⟨e0, e1, e2, e3, e4, e5, e6, e7⟩ := (heg.kept hkp (fun h => h)) j m hek
    have hmo : s'.held[j]? = some m.o := by rw [← D.ops, List.getElem?_map, hek]; rfl
    have hR : RightOp N m.o := D.fit.held m.o (List.mem_of_getElem? hmo)
    obtain ⟨cur, hmc, hms⟩ := D.held.seen m (List.mem_of_getElem? hek)
    have HEK : Hid (ms'[j]? = some m) := hek
    have HMO : Hid (s'.held[j]? = some m.o) := hmo
    have gz := World.block_lt_of_cell? wr _ e0
    clear hek hmo
    have hkW : ∀ o, Kept (fun _ => False) wo (wr.alloc o) := fun o => hkp.alloc o
    go_wp2_with fail
    refine (can_any bp s'.known.length bk' s'.known m.o m.g m.cap _ ((hkW _).cell' c2 (fun h => h)) (hkn.quiet (hkW _)) D.fit.known (by rw [D.fit.len]; exact hR) (fun i n hi => by
     have : wo.cell? ⟨m.g, i, none⟩ = some (.int .u32 (n : Int)) := by rw [Lib.cell_of_heap hmc]; exact hms i n hi
     exact (hkW _).cell' this (fun h => h))).mono ?_
    rintro e1' w1 ⟨rfl, hK1⟩
    have hKo1 : Kept (fun _ => False) wo w1 := (hkW _).trans' hK1
    have hbox1 : w1.heap[wr.heap.size]? = some (.cells #[.int .u8 m.o.kind, .int .u8 m.o.peer, .int .u32 m.o.num, .int .u32 m.o.clock, .slice (some ⟨m.g, 0, none⟩) m.o.seen.length m.cap, .int .u32 m.o.nclock, .int .u8 m.o.npeer, .int .i32 m.o.char] 115 (0, 0)) := hK1.heap (heap_alloc_new wr _) (fun h => h)
    cases hcb : canB s'.known m.o with
    | false =>
     have HA : Hid (∀ (x : Nat) (o : Ope), x < j + 1 → s'.held[x]? = some o → s'.can o = false) := fun x o hx hxo => by
      by_cases he : x = j
      ·subst he; rw [HMO.out] at hxo; cases hxo; exact hcb
      ·exact hall.out x o (by omega) hxo
     clear hcb
     go_wp2
     go_roundg (gk - 1)
     case measure => omega
     case rel => exact ⟨j + 1, rfl, by omega, by omega, by go_num, HA, hKo1⟩
    | true =>
     have hc1 : w1.cell? ⟨bp, 4, none⟩ = some (.slice (some ⟨g, 0, none⟩) ms'.length cp) := hKo1.cell' c4 (fun h => h)
     have hbw1 : bp < w1.heap.size := Nat.lt_of_lt_of_le hbw hKo1.size
     obtain ⟨cur2, hg2, hnc2, hm2, hsz2, htk2⟩ : ∃ cur2, wo.heap[g]? = some (.cells cur2 115 (0, 0)) ∧ ms'.length ≤ cp ∧ cp ≤ maxLen ∧ cur2.size = cp * 8 ∧ cur2.toList.take (ms'.length * 8) = opsCells ms' := by
      rcases D.held.row.2 with ⟨e, _⟩ | ⟨g2, cap2, cur2, e, _, hg2, hnc2, hm2, hsz2, htk2⟩
      ·cases e
      ·injection e with x1 x2 x3
       injection x1 with x1
       injection x1 with x1
       subst x1; subst x3
       exact ⟨cur2, hg2, hnc2, hm2, hsz2, htk2⟩
     have hcall : Calls Tryz.prog 80 #[.slice (some ⟨g, 0, none⟩) ms'.length cp, .int .i64 j, .int .i64 ((j : Int) + 1)] w1 fun e' w4 =>
       e' = .returned (.slice (some ⟨g, 0, none⟩) (ms'.length - 1) cp) ∧ Hid (w4.ownsRow 0 115 8 (.slice (some ⟨g, 0, none⟩) (ms'.length - 1) cp) (ms'.length - 1) (opsCells (ms'.eraseIdx j)) ∧ Kept (fun k => k = g) w1 w4) ∧ w4.cell? ⟨bp, 4, none⟩ = some (.slice (some ⟨g, 0, none⟩) ms'.length cp) ∧ w4.frozen? ⟨bp, 4, none⟩ = false ∧ bp < w4.heap.size := by
      have hgb : bp ≠ g := fun e => own_ne D.held.row D.peer.block (by decide) (by rw [e]; rfl)
      refine (opDelete_any ms' j g cp cur2 w1 hlt (by omega) hnc2 hm2 (hKo1.heap hg2 (fun h => h)) hsz2 htk2).mono ?_
      rintro e' w4 ⟨rfl, x1, x2⟩
      have x3 : Kept (fun k => k = g) w1 w4 := x2
      refine ⟨rfl, ⟨x1, x3⟩, x3.cell' hc1 hgb, ?_, Nat.lt_of_lt_of_le hbw1 x3.size⟩
      rw [x3.frozen (p := ⟨bp, 4, none⟩) hbw1 hgb, hKo1.frozen (p := ⟨bp, 4, none⟩) hbw (fun h => h)]
      exact Lib.frozen_of_heap D.peer.block 4
     have HCB : Hid (s'.can m.o = true) := hcb
     have HD : Hid (DSt N s bp bk' (Wr bp bk rv hv) (Own bp bk rv hv ms) w wo s' d' rv' (.slice (some ⟨g, 0, none⟩) ms'.length cp) ms') := D
     have HB1 : Hid (w1.heap[wr.heap.size]? = some (.cells #[.int .u8 m.o.kind, .int .u8 m.o.peer, .int .u32 m.o.num, .int .u32 m.o.clock, .slice (some ⟨m.g, 0, none⟩) m.o.seen.length m.cap, .int .u32 m.o.nclock, .int .u8 m.o.npeer, .int .i32 m.o.char] 115 (0, 0))) := hbox1
     have HO1 : Hid (Kept (fun _ => False) wo w1 ∧ Kept (fun _ => False) wo wr ∧ wr.heap.size < w1.heap.size) := ⟨hKo1, hkp, lt_of_heap hbox1⟩
     clear hcb D hbox1 hKo1 hK1 hkp heg he e0 e1 e2 e3 e4 e5 e6 e7 hkn c0 c1 c2 c3 c4 hkW hmc hms hg2 htk2 hsz2 hm2 hnc2 hR
     go_wp2_with fail
     refine hcall.mono ?_
     rintro e4 w4 ⟨rfl, X4, c4, f4, z4⟩
     obtain ⟨x1, x2⟩ := X4.out
     have hgw : g < wo.heap.size := by rcases (HD.out.held.row.lt g rfl) with ⟨_, h⟩; exact h
     have hgr : wr.heap.size ≠ g := by have := HO1.out.2.1.size; omega
     have hb4 := x2.heap HB1.out hgr
     have z5 : wr.heap.size < w4.heap.size := lt_of_heap hb4
     have hbr : wr.heap.size ≠ bp := by have := HO1.out.2.1.size; omega
     have b0 : w4.cell? ⟨wr.heap.size, 0, none⟩ = some (.int .u8 m.o.kind) := by rw [Lib.cell_of_heap hb4]; rfl
     have b1 : w4.cell? ⟨wr.heap.size, 1, none⟩ = some (.int .u8 m.o.peer) := by rw [Lib.cell_of_heap hb4]; rfl
     have b2 : w4.cell? ⟨wr.heap.size, 2, none⟩ = some (.int .u32 m.o.num) := by rw [Lib.cell_of_heap hb4]; rfl
     have b3 : w4.cell? ⟨wr.heap.size, 3, none⟩ = some (.int .u32 m.o.clock) := by rw [Lib.cell_of_heap hb4]; rfl
     have b4 : w4.cell? ⟨wr.heap.size, 4, none⟩ = some (.slice (some ⟨m.g, 0, none⟩) m.o.seen.length m.cap) := by rw [Lib.cell_of_heap hb4]; rfl
     have b5 : w4.cell? ⟨wr.heap.size, 5, none⟩ = some (.int .u32 m.o.nclock) := by rw [Lib.cell_of_heap hb4]; rfl
     have b6 : w4.cell? ⟨wr.heap.size, 6, none⟩ = some (.int .u8 m.o.npeer) := by rw [Lib.cell_of_heap hb4]; rfl
     have b7 : w4.cell? ⟨wr.heap.size, 7, none⟩ = some (.int .i32 m.o.char) := by rw [Lib.cell_of_heap hb4]; rfl
     obtain ⟨P5, H5, K5⟩ := taken (N := N) HD.out.peer HD.out.held HD.out.ops HEK.out HO1.out.1 x1 x2
     have hseen5 : ∀ m : MOp, ms'[j]? = some m → SeenAt (w4.setCell ⟨bp, 4, none⟩ (.slice (some ⟨g, 0, none⟩) (ms'.length - 1) cp)) m := fun m hm => by
      obtain ⟨cur, a, b⟩ := HD.out.held.seen m (List.mem_of_getElem? hm)
      refine SeenAt.keep ⟨cur, a, b⟩ K5 ?_
      rintro (e | e)
      ·exact own_ne HD.out.held.row a (by decide) (by rw [e]; rfl)
      ·rw [e, HD.out.peer.block] at a; simp at a
     have HP5 : Hid _ := P5
     have HH5 : Hid _ := H5
     have HK5 : Hid _ := K5
     have hdl := deliver_any ({ s' with held := s'.held.eraseIdx j } : Pr) m.o N bp bk' rv' (.slice (some ⟨g, 0, none⟩) (ms'.length - 1) cp) m.g m.cap _ P5 (fun b hb => (H5.row.lt b hb).2) (hseen5 m HEK.out) ⟨HD.out.fit.len, HD.out.fit.n1, HD.out.fit.n8, HD.out.fit.me, HD.out.fit.known, HD.out.fit.clock, fun o ho => HD.out.fit.held o (List.mem_of_mem_eraseIdx ho), Nat.le_trans (by show (s'.held.eraseIdx j).length ≤ s'.held.length; rw [List.length_eraseIdx]; split <;> omega) HD.out.fit.most, HD.out.fit.row, HD.out.fit.log⟩ (HD.out.fit.held m.o (List.mem_of_getElem? HMO.out)) (by
      show s'.row.length ≤ 4294967295
      have := HD.out.size; unfold psize at this hn; omega) (by
      show s'.k m.o.peer < 4294967295
      have h1 := ((can_iff s' m.o).1 HCB.out).1
      have h2 := (HD.out.fit.held m.o (List.mem_of_getElem? HMO.out)).num
      omega)
     clear P5 H5 K5 X4 x1 x2 hcall hb4 hseen5
     go_wp2_with fail
     refine hdl.mono ?_
     rintro e6 w6 ⟨rfl, bk6, rv6, P6, K6, B6, B6s⟩
     have D6 := DSt.step HD.out HEK.out hall.out HCB.out HP5.out HH5.out HK5.out P6 K6 B6 B6s
     have hd16 : d' ≤ 16 := by have := HD.out.count; omega
     have HLEN : Hid (((({ s' with held := s'.held.eraseIdx j } : Pr).apply m.o).held).length = go - 1) := by
      show (s'.held.eraseIdx j).length = go - 1
      rw [List.length_eraseIdx_of_lt (List.getElem?_eq_some_iff.1 HMO.out).1, HK.out]
     have HGO : Hid (0 < go) := by show 0 < go; have := hml.out; omega
     have HD6 : Hid _ := D6
     clear P6 K6 B6 B6s D6 hdl b0 b1 b2 b3 b4 b5 b6 b7
     go_wp2
     go_roundg (go - 1)
     case measure => have := HGO.out; omega
     case rel => exact ⟨_, d' + 1, bk6, rv6, _, _, by go_num, HLEN.out, HD6.out⟩
   ·have hje : j = ms'.length := by omega
    have hfc : Hid (s'.firstCan = none) := firstCan_no s' (fun x o hx => hall.out x o (by have := D.ops; rw [← this, List.length_map] at hx; omega))
    go_wp2
    rw [Exit.noGoto_ret]
    go_ret
    have h1 : (settleF s.held.length s).1 = s' := by rw [D.res, settleF_none hfc.out]
    have h2 : (settleF s.held.length s).2 = d' := by rw [D.num, settleF_none hfc.out]; rfl
    exact ⟨ret_int (by rw [h2]), bk', rv', .slice a ms'.length cp, ms', d', by rw [h1]; exact D.quiet hkp⟩
end Go.Proofs.YtgfafbanahiigaaGreat
