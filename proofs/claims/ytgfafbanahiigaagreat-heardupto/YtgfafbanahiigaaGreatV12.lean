import Derived.Test.YtgfafbanahiigaaGreatV11
import Derived.Test.YtgfafbanahiigaaGreatV4
import Derived.Deep.QuietTactic
import Derived.BigQuiet
import Derived.Deep.RegionWith
import Derived.BigRegion
import Derived.Deep.DeepCutAuto
import Derived.Lib.QuietBelow
set_option linter.unusedVariables false
set_option linter.unusedSimpArgs false
namespace Go.Proofs.YtgfafbanahiigaaGreat
open Go.RowKit Go.Chorus
open Classical in
def recvF (N : Nat) (s : Pr) (l : List UInt8) : Pr × Nat × Int := @ite _ (Right N l) (rightDec N l) (s.oneF (fieldsOf N l)) (s, 0, 6)
theorem turn_delivered {N : Nat} {s s'' : Pr} {o : Ope} {bp g : Nat} {bk bk5 bk6 : Log} {rv rv5 hv rv6 hv6 : Value} {ms ms6 : List MOp} {w w4 w5 w6 : World} {d : Nat} (hk4 : Kept (fun _ => False) w w4) (K5 : Kept (Foot bp bk rv) w4 w5) (B5 : ∀ k, Foot bp bk5 rv5 k → Foot bp bk rv k ∨ w4.heap.size ≤ k) (S5 : ∀ k, bk5.Seen k → bk.Seen k ∨ k = g) (hg : w.heap.size ≤ g)
  (D : DSt N (s.apply o) bp bk6 (Wr bp bk5 rv5 hv) (Own bp bk5 rv5 hv ms) w5 w6 s'' d rv6 hv6 ms6) : Turn bp (Own bp bk rv hv ms) w w6 s'' := by
 have hown : ∀ k, Own bp bk5 rv5 hv ms k → Own bp bk rv hv ms k ∨ w.heap.size ≤ k := by
  rintro k (hk | hk | hk | hk)
  ·rcases B5 k hk with h | h
   ·exact Or.inl (Or.inl h)
   ·exact Or.inr (Nat.le_trans hk4.size h)
  ·exact Or.inl (Or.inr (Or.inl hk))
  ·exact Or.inl (Or.inr (Or.inr (Or.inl hk)))
  ·rcases S5 k hk with h | h
   ·exact Or.inl (Or.inr (Or.inr (Or.inr h)))
   ·rw [h]; exact Or.inr hg
 refine ⟨Own bp bk6 rv6 hv6 ms6, ⟨bk6, rv6, hv6, ms6, D.peer, D.held, D.ops, rfl⟩, ?_, fun k hk => ?_⟩
 ·refine ((hk4.mono (S' := Own bp bk rv hv ms) (fun _ _ h => h.elim)).trans K5 (fun i _ h => Or.inl h)).trans D.kept (fun i hi h => ?_)
  have h : Own bp bk5 rv5 hv ms i := by
   rcases h with h | h
   ·exact Or.inl h
   ·exact Or.inr (Or.inl h)
  rcases hown i h with h | h
  ·exact h
  ·omega
 ·rcases D.own k hk with h | h
  ·exact hown k h
  ·exact Or.inr (Nat.le_trans (Nat.le_trans hk4.size K5.size) h)
theorem turn_waits {N : Nat} {s : Pr} {o : Ope} {bp g cap : Nat} {bk : Log} {rv hv hv5 : Value} {ms : List MOp} {w w4 w5 : World} (hk4 : Kept (fun _ => False) w w4) (P : PeerS w4 bp s bk rv hv) (H : HeldAt w4 hv ms) (ho : ms.map MOp.o = s.held) (hgw : w.heap.size ≤ g) (hg : w4.heap[g]? = some (.cells (u32s o.seen) 63 (0, 0)))
  (x1 : w5.ownsRow 0 115 8 hv5 (ms.length + 1) (opsCells (ms.take (placeM o.peer ms 0) ++ ⟨o, g, cap⟩ :: ms.drop (placeM o.peer ms 0))))
  (x2 : w5.heap[bp]? = some (.cells ((#[.int .u8 s.me, .int .u32 s.clock, .slice (some ⟨bk.b, 0, none⟩) s.known.length s.known.length, rv, hv] : Array Value).setIfInBounds 4 hv5) 69 (0, 0)))
  (x3 : Kept (fun k => k = bp ∨ hv.ownBlock = some k) w4 w5) (x4 : ∀ k, hv5.ownBlock = some k → hv.ownBlock = some k ∨ w4.heap.size ≤ k) : Turn bp (Own bp bk rv hv ms) w w5 { s with held := waitIn s.held o } := by
 have hap := H.apart P
 have hlen : (ms.take (placeM o.peer ms 0) ++ (⟨o, g, cap⟩ : MOp) :: ms.drop (placeM o.peer ms 0)).length = ms.length + 1 := by simp; have := placeM_le o.peer ms; omega
 refine ⟨Own bp bk rv hv5 (ms.take (placeM o.peer ms 0) ++ ⟨o, g, cap⟩ :: ms.drop (placeM o.peer ms 0)), ⟨bk, rv, hv5, _, ⟨x2, P.log.keep x3 ?_ ?_, ownsRow_kept P.row x3 ?_, ?_, P.ops⟩, ⟨by rw [hlen]; exact x1, ?_⟩, ?_, rfl⟩, ?_, ?_⟩
 ·rintro b hb (e | e)
  ·subst e; exact P.log.off P.block (by decide) (by decide) hb
  ·exact hap.1 b e (Or.inr (Or.inl hb))
 ·rintro b hb (e | e)
  ·subst e; exact P.log.seenOff P.block (by decide) hb
  ·exact hap.2.2 b e hb
 ·rintro b hb (e | e)
  ·subst e; exact own_ne P.row P.block (by decide) hb
  ·exact hap.1 b e (Or.inr (Or.inr hb))
 ·intro v hv' b hb hb5
  rcases x4 b hb5 with e | e
  ·exact P.off v hv' b hb e
  ·have := P.log.lt.1 b (Or.inr ⟨v, hv', hb⟩); omega
 ·have hold : ∀ m ∈ ms, SeenAt w5 m := fun m hm => by
   obtain ⟨cur, b, c⟩ := H.seen m hm
   refine ⟨cur, x3.heap b ?_, c⟩
   rintro (e | e)
   ·exact hap.2.1 m hm (Or.inl e)
   ·exact own_ne H.row b (by decide) e
  intro m hm
  simp only [List.mem_append, List.mem_cons] at hm
  rcases hm with hm | rfl | hm
  ·exact hold m (List.mem_of_mem_take hm)
  ·refine ⟨_, x3.heap hg ?_, fun i n hi => by rw [u32s_at, hi]; rfl⟩
   rintro (e | e)
   ·have h1 := P.block; rw [← e, hg] at h1; simp at h1
   ·exact own_ne H.row hg (by decide) e
  ·exact hold m (List.mem_of_mem_drop hm)
 ·show List.map MOp.o (_ ++ _ :: _) = waitIn s.held o
  unfold waitIn placeM
  rw [← ho, List.map_append, List.map_cons, List.map_take, List.map_drop]
 ·refine (hk4.mono (S' := Own bp bk rv hv ms) (fun _ _ h => h.elim)).trans x3 (fun i _ h => ?_)
  rcases h with h | h
  ·exact Or.inl (Or.inl h)
  ·exact Or.inr (Or.inl h)
 ·have hsz := hk4.size
  rintro k (hk | hk | ⟨m, hm, rfl⟩ | hk)
  ·exact Or.inl (Or.inl hk)
  ·rcases x4 k hk with h | h
   ·exact Or.inl (Or.inr (Or.inl h))
   ·exact Or.inr (Nat.le_trans hsz h)
  ·simp only [List.mem_append, List.mem_cons] at hm
   rcases hm with hm | rfl | hm
   ·exact Or.inl (Or.inr (Or.inr (Or.inl ⟨m, List.mem_of_mem_take hm, rfl⟩)))
   ·exact Or.inr hgw
   ·exact Or.inl (Or.inr (Or.inr (Or.inl ⟨m, List.mem_of_mem_drop hm, rfl⟩)))
  ·exact Or.inl (Or.inr (Or.inr (Or.inr hk)))
theorem settleF_num (f : Nat) (s : Pr) : (settleF f s).2 ≤ f := by
 induction f generalizing s with
 | zero => exact Nat.le_refl _
 | succ f ih =>
  unfold settleF
  split
  ·omega
  ·exact Nat.succ_le_succ (ih _)
end Go.Proofs.YtgfafbanahiigaaGreat
set_option linter.unusedVariables false
set_option linter.unusedSimpArgs false
namespace Go.Proofs.YtgfafbanahiigaaGreat
open Go.RowKit Go.Chorus Go.Sort
set_option maxHeartbeats 2000000 in
set_option maxRecDepth 100000 in
theorem receiveOne_any (s : Pr) (N : Nat) (bp : Nat) (F : Nat → Prop) (l : List UInt8) (w : World) (h : PM w bp s F) (hf : Fit N s) (hn : psize s < 4294967295) :
  Calls Tryz.prog 50 #[.pointer (some ⟨bp, 0, none⟩), .string ⟨l.toArray⟩] w fun e' w' =>
   e' = .returned (.tuple #[.int .i64 ((recvF N s l).2.1 : Nat), .int .i64 (recvF N s l).2.2]) ∧ Turn bp F w w' (recvF N s l).1 := by
 obtain ⟨bk, rv, hv, ms, P, H, ho, rfl⟩ := h
 obtain ⟨c0, c1, c2, c3, c4⟩ := P.cells
 have hbw := lt_of_heap P.block
 have hlen := hf.len
 have hN1 := hf.n1
 have hN8 := hf.n8
 rw [hlen] at c2
 go_enter Tryz.func50, Tryz.ntmps50
 go_wp2_with fail
 refine (hPeers_any bp 2 N N _ _ c2).mono ?_
 rintro e0 w0 ⟨rfl, hw0⟩
 rw [hw0]
 clear hw0
 go_wp2_with fail
 refine (read_any l N _ hN1 hN8).mono ?_
 rintro e1 w1 ⟨k1, hr⟩
 rcases hr with ⟨hnr, rfl⟩ | ⟨hr, g, rfl, hg, hgw⟩
 ·have HR : Hid (recvF N s l = (s, 0, 6)) := by show recvF N s l = _; unfold recvF; rw [if_neg hnr]
  clear hnr
  have HP : Hid (PM w bp s (Own bp bk rv hv ms)) := ⟨bk, rv, hv, ms, P, H, ho, rfl⟩
  go_wp2
  go_quiet (fail)
  go_wp2
  go_ret2
  rw [HR.out]
  exact ⟨rfl, Turn.stay HP.out ((k1.alloc _).drewN _)⟩
 ·have hRO : RightOp N (fieldsOf N l) := (hr.packet hN8).2
  have HR : Hid (recvF N s l = s.oneF (fieldsOf N l)) := by show recvF N s l = _; unfold recvF; rw [if_pos hr]
  clear hr
  obtain ⟨o, hoo⟩ : ∃ o, fieldsOf N l = o := ⟨_, rfl⟩
  rw [hoo] at hRO HR hg ⊢
  clear hoo
  have kc : ∀ x, Kept (fun _ => False) w (w1.alloc x) := fun x => k1.alloc x
  have hbw1 : bp < w1.heap.size := Nat.lt_of_lt_of_le hbw k1.size
  have hme : s.me < s.known.length := by rw [hlen]; exact hf.me
  have hpe : o.peer < s.known.length := by rw [hlen]; exact hRO.peer
  have hkm : s.known[s.me]? = some (s.k s.me) := by unfold Pr.k; rw [List.getD_eq_getElem?_getD, List.getElem?_eq_getElem hme]; rfl
  have hkp : s.known[o.peer]? = some (s.k o.peer) := by unfold Pr.k; rw [List.getD_eq_getElem?_getD, List.getElem?_eq_getElem hpe]; rfl
  have hkn := P.log
  have d0 := k1.cell' c0 (fun h => h)
  have d2 := k1.cell' c2 (fun h => h)
  have d4 := k1.cell' c4 (fun h => h)
  go_wp2
  have HP : Hid (PeerS w bp s bk rv hv ∧ HeldAt w hv ms ∧ ms.map MOp.o = s.held) := ⟨P, H, ho⟩
  have hbox : ∀ x, (w1.alloc x).heap[w1.heap.size]? = some x := fun x => heap_alloc_new w1 x
  obtain ⟨W, hW⟩ : ∃ W, W = w1.alloc (.cells #[.int .u8 o.kind, .int .u8 o.peer, .int .u32 o.num, .int .u32 o.clock, .slice (some ⟨g, 0, none⟩) N N, .int .u32 o.nclock, .int .u8 o.npeer, .int .i32 o.char] 115) := ⟨_, rfl⟩
  have HWk : Hid (Kept (fun _ => False) w W ∧ Kept (fun _ => False) w1 W ∧ W.heap[w1.heap.size]? = some (.cells #[.int .u8 o.kind, .int .u8 o.peer, .int .u32 o.num, .int .u32 o.clock, .slice (some ⟨g, 0, none⟩) N N, .int .u32 o.nclock, .int .u8 o.npeer, .int .i32 o.char] 115 (0, 0))) := by rw [hW]; exact ⟨kc _, (Kept.refl _ _).alloc _, heap_alloc_new w1 _⟩
  have HW : Hid _ := hW
  clear hW
  have km := hf.k s.me
  have kp := hf.k o.peer
  have hnu := hRO.num
  have hmN : (s.me : Int) < (N : Int) := by have := hf.me; omega
  have hpN : (o.peer : Int) < (N : Int) := by have := hRO.peer; omega
  have c2l : w.cell? ⟨bp, 2, none⟩ = some (.slice (some ⟨bk.b, 0, none⟩) s.known.length N) := by rw [hlen]; exact c2
  have hct1 := fun W' (hW' : Kept (fun _ => False) w W') => hCount_log bp 2 N s.me (s.k s.me) bk s.known W' (hW'.cell' c2l (fun h => h)) (hkn.quiet hW') hkm km
  have hct2 := fun W' (hW' : Kept (fun _ => False) w W') => hCount_log bp 2 N o.peer (s.k o.peer) bk s.known W' (hW'.cell' c2l (fun h => h)) (hkn.quiet hW') hkp kp
  clear P H ho hkn hkm hkp hbox c2l
  go_cut [17] (fun v wc => v = .bool (decide (o.peer = s.me ∧ s.k s.me < o.num)) ∧ Kept (fun _ => False) W wc)
  case first =>
   by_cases h1 : o.peer = s.me
   ·have e1 : ((o.peer : Int) == (s.me : Int)) = true := by rw [h1]; simp
    have hd : Hid (decide (o.peer = s.me ∧ s.k s.me < o.num) = decide (s.k s.me < o.num)) := by
     show _ = _
     rw [Bool.eq_iff_iff]; simp only [decide_eq_true_iff]; omega
    clear h1 HWk
    go_quiet (refine Calls.quiet_of_same (hct1 _ ((kc _).drewN _)))
    go_wp2_with fail
    go_meet
    exact ⟨by rw [hd.out], by rw [HW.out]; exact (Kept.refl _ _).drewN _⟩
   ·have e1 : ((o.peer : Int) == (s.me : Int)) = false := by simp; omega
    have hd : Hid (decide (o.peer = s.me ∧ s.k s.me < o.num) = false) := by show _ = _; simp [h1]
    clear h1 HWk
    go_quiet (fail)
    go_wp2_with fail
    go_meet
    exact ⟨by rw [hd.out], by rw [HW.out]; exact (Kept.refl _ _).drewN _⟩
  case rest =>
   obtain ⟨rfl, hkc⟩ := hcut
   by_cases hA : o.peer = s.me ∧ s.k s.me < o.num
   ·have hd : decide (o.peer = s.me ∧ s.k s.me < o.num) = true := by simpa using hA
    have HO : Hid (s.oneF o = (s, 0, 6)) := by show s.oneF o = _; unfold Pr.oneF; rw [if_pos hA]
    rw [hd]
    clear hA hd
    go_wp2
    go_ret2
    rw [HR.out, HO.out]
    exact ⟨rfl, Turn.stay ⟨bk, rv, hv, ms, HP.out.1, HP.out.2.1, HP.out.2.2, rfl⟩ (HWk.out.1.trans' hkc)⟩
   ·have hd : decide (o.peer = s.me ∧ s.k s.me < o.num) = false := by simpa using hA
    rw [hd]
    have HA : Hid (¬ (o.peer = s.me ∧ s.k s.me < o.num)) := hA
    have hkw : Kept (fun _ => False) w wc := HWk.out.1.trans' hkc
    have hk1c : Kept (fun _ => False) w1 wc := HWk.out.2.1.trans' hkc
    have hboxc := hkc.heap HWk.out.2.2 (fun h => h)
    have hgc := hk1c.heap hg (fun h => h)
    have x0 : wc.cell? ⟨w1.heap.size, 0, none⟩ = some (.int .u8 o.kind) := by rw [Lib.cell_of_heap hboxc]; rfl
    have x1 : wc.cell? ⟨w1.heap.size, 1, none⟩ = some (.int .u8 o.peer) := by rw [Lib.cell_of_heap hboxc]; rfl
    have x2 : wc.cell? ⟨w1.heap.size, 2, none⟩ = some (.int .u32 o.num) := by rw [Lib.cell_of_heap hboxc]; rfl
    have x3 : wc.cell? ⟨w1.heap.size, 3, none⟩ = some (.int .u32 o.clock) := by rw [Lib.cell_of_heap hboxc]; rfl
    have x4 : wc.cell? ⟨w1.heap.size, 4, none⟩ = some (.slice (some ⟨g, 0, none⟩) N N) := by rw [Lib.cell_of_heap hboxc]; rfl
    have x5 : wc.cell? ⟨w1.heap.size, 5, none⟩ = some (.int .u32 o.nclock) := by rw [Lib.cell_of_heap hboxc]; rfl
    have x6 : wc.cell? ⟨w1.heap.size, 6, none⟩ = some (.int .u8 o.npeer) := by rw [Lib.cell_of_heap hboxc]; rfl
    have x7 : wc.cell? ⟨w1.heap.size, 7, none⟩ = some (.int .i32 o.char) := by rw [Lib.cell_of_heap hboxc]; rfl
    have xz := lt_of_heap hboxc
    have d2c := hk1c.cell' d2 (fun h => h)
    have d4c := hk1c.cell' d4 (fun h => h)
    have hbc : bp < wc.heap.size := Nat.lt_of_lt_of_le hbw hkw.size
    have HX : Hid (wc.heap[w1.heap.size]? = some (.cells #[.int .u8 o.kind, .int .u8 o.peer, .int .u32 o.num, .int .u32 o.clock, .slice (some ⟨g, 0, none⟩) N N, .int .u32 o.nclock, .int .u8 o.npeer, .int .i32 o.char] 115 (0, 0)) ∧ wc.heap[g]? = some (.cells (u32s o.seen) 63 (0, 0)) ∧ Kept (fun _ => False) w wc) := ⟨hboxc, hgc, hkw⟩
    clear hA hd hkc hk1c hboxc hgc d0 d2 d4 c0 c1 c2 c3 c4 k1 hg HW HWk hbw1 kc hct1
    go_wp2
    obtain ⟨wx, hwx⟩ : ∃ x, x = wc := ⟨_, rfl⟩
    subst hwx
    go_cut [42] (fun v wd => v = .bool (decide (o.num ≤ s.k o.peer) || decide (0 ≤ heldFrom o.peer o.num ms 0)) ∧ Kept (fun _ => False) wx wd)
    case first =>
     by_cases h1 : o.num ≤ s.k o.peer
     ·have e1 : decide ((o.num : Int) ≤ (s.k o.peer : Int)) = true := by simpa using h1
      have e2 : decide (o.num ≤ s.k o.peer) = true := by simpa using h1
      have hd : Hid ((decide (o.num ≤ s.k o.peer) || decide (0 ≤ heldFrom o.peer o.num ms 0)) = true) := by show _ = _; simp [h1]
      go_quiet (refine Calls.quiet_of_same (hct2 _ (hkw.drewN _)))
      go_wp2_with fail
      go_meet
      exact ⟨by rw [hd.out], (Kept.refl _ _).drewN _⟩
     ·have e1 : decide ((o.num : Int) ≤ (s.k o.peer : Int)) = false := by simp; omega
      have hd : Hid ((decide (o.num ≤ s.k o.peer) || decide (0 ≤ heldFrom o.peer o.num ms 0)) = decide (0 ≤ heldFrom o.peer o.num ms 0)) := by show _ = _; simp [h1]
      have hV : ∀ W' : World, Kept (fun _ => False) wx W' → OpsV W' hv ms := fun W' hW' => opsV_of_own (ownsRow_kept HP.out.2.1.row (hkw.trans' hW') (fun _ _ h => h))
      have hml : ms.length ≤ 16 := by have := hf.most; rw [← HP.out.2.2, List.length_map] at this; exact this
      have hkwc := hkw
      clear hkw
      have e2 : decide (o.num ≤ s.k o.peer) = false := by simp; omega
      obtain ⟨HB, hHB⟩ : ∃ HB, decide (0 ≤ heldFrom o.peer o.num ms 0) = HB := ⟨_, rfl⟩
      have htx : ∀ d os, Calls Tryz.prog 63 #[.pointer (some ⟨bp, 0, none⟩), .agg #[.int .u8 o.kind, .int .u8 o.peer, .int .u32 o.num, .int .u32 o.clock, .slice (some ⟨g, 0, none⟩) N N, .int .u32 o.nclock, .int .u8 o.npeer, .int .i32 o.char]] (grow (redrawn wx d) os) fun e w'' => e = .returned (.bool HB) ∧ ∃ p : Regrown, w'' = grow (redrawn wx p.d) p.os := fun d os => by
       have hk0 := Kept.of_below_all (below_regrown wx d os)
       refine Calls.regrown_of ((waitsAlready_any bp hv ms o.kind o.peer o.num o.clock (.slice (some ⟨g, 0, none⟩) N N) o.nclock o.npeer o.char _ (hk0.cell' d4c (fun h => h)) (hV _ hk0) (by omega)).mono (fun e w' ⟨h1, h2⟩ => ⟨by rw [h1, hHB], h2.below _ (Nat.le_refl _) (fun _ h => h.elim)⟩))
      have htc : ∀ d os, Calls Tryz.prog 42 #[.pointer (some ⟨bp, 2, none⟩), .int .u8 o.peer] (grow (redrawn wx d) os) fun e w'' => e = .returned (.int .u32 (s.k o.peer : Nat)) ∧ ∃ p : Regrown, w'' = grow (redrawn wx p.d) p.os := fun d os =>
       (hct2 _ (hkwc.trans' (Kept.of_below_all (below_regrown wx d os)))).mono (fun e w' ⟨h1, h2⟩ => ⟨h1, ⟨d, os⟩, h2⟩)
      have y0 := cell_regrown x0
      have y1 := cell_regrown x1
      have y2 := cell_regrown x2
      have y3 := cell_regrown x3
      have y4 := cell_regrown x4
      have y5 := cell_regrown x5
      have y6 := cell_regrown x6
      have y7 := cell_regrown x7
      have y8 := cell_regrown d2c
      have HHB : Hid (decide (0 ≤ heldFrom o.peer o.num ms 0) = HB) := hHB
      clear hHB hV x0 x1 x2 x3 x4 x5 x6 x7 d2c hct2
      refine wp_region_quiet_below (by kernel_rfl) (by kernel_rfl) ?_
      repeat (go_big_quiet_step (first | exact htc _ _ | exact htx _ _))
      refine wpQuiet_nil ?_
      intro _ hw'
      obtain ⟨⟨dq, osq⟩, hw''⟩ := hw'
      subst hw''
      go_wp2_with fail
      go_meet
      exact ⟨by rw [hd.out, HHB.out], Kept.of_below_all (below_regrown wx dq osq)⟩
    case rest =>
     obtain ⟨rfl, hkd⟩ := hcut
     have hiff : (decide (o.num ≤ s.k o.peer) || decide (0 ≤ heldFrom o.peer o.num ms 0)) = true ↔ (o.num ≤ s.k o.peer ∨ ∃ q ∈ s.held, q.peer = o.peer ∧ q.num = o.num) := by
      rw [Bool.or_eq_true, decide_eq_true_iff, decide_eq_true_iff, heldFrom_iff]
      have : (∃ m ∈ ms, m.o.peer = o.peer ∧ m.o.num = o.num) ↔ (∃ q ∈ s.held, q.peer = o.peer ∧ q.num = o.num) := by
       rw [← HP.out.2.2]
       constructor
       ·rintro ⟨m, hm, hh⟩; exact ⟨m.o, List.mem_map.2 ⟨m, hm, rfl⟩, hh⟩
       ·rintro ⟨q, hq, hh⟩; obtain ⟨m, hm, rfl⟩ := List.mem_map.1 hq; exact ⟨m, hm, hh⟩
      rw [this]
     have hkw : Kept (fun _ => False) w wc := HX.out.2.2.trans' hkd
     by_cases hB : o.num ≤ s.k o.peer ∨ ∃ q ∈ s.held, q.peer = o.peer ∧ q.num = o.num
     ·have hd := hiff.2 hB
      have HO : Hid (s.oneF o = (s, 0, 0)) := by show s.oneF o = _; unfold Pr.oneF; rw [if_neg HA.out, if_pos hB]
      rw [hd]
      clear hB hd hiff
      go_wp2
      go_ret2
      rw [HR.out, HO.out]
      exact ⟨rfl, Turn.stay ⟨bk, rv, hv, ms, HP.out.1, HP.out.2.1, HP.out.2.2, rfl⟩ hkw⟩
     ·have hd : (decide (o.num ≤ s.k o.peer) || decide (0 ≤ heldFrom o.peer o.num ms 0)) = false := by
       cases hh : (decide (o.num ≤ s.k o.peer) || decide (0 ≤ heldFrom o.peer o.num ms 0)) with
       | false => rfl
       | true => exact absurd (hiff.1 hh) hB
      have HB : Hid (¬ (o.num ≤ s.k o.peer ∨ ∃ q ∈ s.held, q.peer = o.peer ∧ q.num = o.num)) := hB
      rw [hd]
      have hboxd := hkd.heap HX.out.1 (fun h => h)
      have hgd := hkd.heap HX.out.2.1 (fun h => h)
      have z0 : wc.cell? ⟨w1.heap.size, 0, none⟩ = some (.int .u8 o.kind) := by rw [Lib.cell_of_heap hboxd]; rfl
      have z1 : wc.cell? ⟨w1.heap.size, 1, none⟩ = some (.int .u8 o.peer) := by rw [Lib.cell_of_heap hboxd]; rfl
      have z2 : wc.cell? ⟨w1.heap.size, 2, none⟩ = some (.int .u32 o.num) := by rw [Lib.cell_of_heap hboxd]; rfl
      have z3 : wc.cell? ⟨w1.heap.size, 3, none⟩ = some (.int .u32 o.clock) := by rw [Lib.cell_of_heap hboxd]; rfl
      have z4 : wc.cell? ⟨w1.heap.size, 4, none⟩ = some (.slice (some ⟨g, 0, none⟩) N N) := by rw [Lib.cell_of_heap hboxd]; rfl
      have z5 : wc.cell? ⟨w1.heap.size, 5, none⟩ = some (.int .u32 o.nclock) := by rw [Lib.cell_of_heap hboxd]; rfl
      have z6 : wc.cell? ⟨w1.heap.size, 6, none⟩ = some (.int .u8 o.npeer) := by rw [Lib.cell_of_heap hboxd]; rfl
      have z7 : wc.cell? ⟨w1.heap.size, 7, none⟩ = some (.int .i32 o.char) := by rw [Lib.cell_of_heap hboxd]; rfl
      have xzd := lt_of_heap hboxd
      have hbd : bp < wc.heap.size := Nat.lt_of_lt_of_le hbw hkw.size
      have Pd := HP.out.1.quiet hkw
      have Hd := HP.out.2.1.quiet hkw
      obtain ⟨cc0, cc1, cc2, cc3, cc4⟩ := Pd.cells
      have hca := can_any bp s.known.length bk s.known o g N wc cc2 Pd.log hf.known (by rw [hlen]; exact hRO) (fun i n hi => by rw [Lib.cell_of_heap hgd, u32s_at, hi]; rfl)
      rw [hRO.seen] at hca
      have HPd : Hid (PeerS wc bp s bk rv hv ∧ HeldAt wc hv ms ∧ wc.heap[w1.heap.size]? = some (.cells #[.int .u8 o.kind, .int .u8 o.peer, .int .u32 o.num, .int .u32 o.clock, .slice (some ⟨g, 0, none⟩) N N, .int .u32 o.nclock, .int .u8 o.npeer, .int .i32 o.char] 115 (0, 0)) ∧ wc.heap[g]? = some (.cells (u32s o.seen) 63 (0, 0)) ∧ Kept (fun _ => False) w wc) := ⟨Pd, Hd, hboxd, hgd, hkw⟩
      clear hB hd hiff x0 x1 x2 x3 x4 x5 x6 x7 d2c d4c hkd hkw hboxd hgd Pd Hd cc0 cc1 cc2 cc3 cc4 xz hct2
      go_wp2_with fail
      refine hca.mono ?_
      rintro e4 w4 ⟨rfl, hk4⟩
      obtain ⟨Pd, Hd, hboxd, hgd, hkw⟩ := HPd.out
      have P4 := Pd.quiet hk4
      have H4 := Hd.quiet hk4
      have hbox4 := hk4.heap hboxd (fun h => h)
      have hg4 := hk4.heap hgd (fun h => h)
      have hkw4 := hkw.trans' hk4
      clear z0 z1 z2 z3 z4 z5 z6 z7 Pd Hd hboxd hgd hkw hca
      have y0 : w4.cell? ⟨w1.heap.size, 0, none⟩ = some (.int .u8 o.kind) := by rw [Lib.cell_of_heap hbox4]; rfl
      have y1 : w4.cell? ⟨w1.heap.size, 1, none⟩ = some (.int .u8 o.peer) := by rw [Lib.cell_of_heap hbox4]; rfl
      have y2 : w4.cell? ⟨w1.heap.size, 2, none⟩ = some (.int .u32 o.num) := by rw [Lib.cell_of_heap hbox4]; rfl
      have y3 : w4.cell? ⟨w1.heap.size, 3, none⟩ = some (.int .u32 o.clock) := by rw [Lib.cell_of_heap hbox4]; rfl
      have y4 : w4.cell? ⟨w1.heap.size, 4, none⟩ = some (.slice (some ⟨g, 0, none⟩) N N) := by rw [Lib.cell_of_heap hbox4]; rfl
      have y5 : w4.cell? ⟨w1.heap.size, 5, none⟩ = some (.int .u32 o.nclock) := by rw [Lib.cell_of_heap hbox4]; rfl
      have y6 : w4.cell? ⟨w1.heap.size, 6, none⟩ = some (.int .u8 o.npeer) := by rw [Lib.cell_of_heap hbox4]; rfl
      have y7 : w4.cell? ⟨w1.heap.size, 7, none⟩ = some (.int .i32 o.char) := by rw [Lib.cell_of_heap hbox4]; rfl
      have xz4 := lt_of_heap hbox4
      have hb4 : bp < w4.heap.size := Nat.lt_of_lt_of_le hbd hk4.size
      cases hcb : canB s.known o with
      | true =>
       have HCB : Hid (s.can o = true) := hcb
       have hnum : Hid (o.num = s.k o.peer + 1) := ((can_iff s o).1 hcb).1
       have hdl := deliver_any s o N bp bk rv hv g N w4 P4 H4.lt ⟨_, hg4, fun i n hi => by rw [u32s_at, hi]; rfl⟩ hf hRO (by unfold psize at hn; omega) (by have := hnum.out; omega)
       rw [hRO.seen] at hdl
       have HH4 : Hid (PeerS w4 bp s bk rv hv ∧ HeldAt w4 hv ms ∧ Kept (fun _ => False) w w4) := ⟨P4, H4, hkw4⟩
       clear hcb P4 H4 hbox4 hg4 hkw4 hk4
       go_wp2_with fail
       refine hdl.mono ?_
       rintro e5 w5 ⟨rfl, bk5, rv5, P5, K5, B5, S5⟩
       have H5 := HH4.out.2.1.foot HH4.out.1 K5
       have hf5 := hf.apply hRO hnum.out
       have hdw := deliverWaiting_any (s.apply o) N bp bk5 rv5 hv ms w5 P5 H5 HP.out.2.2 hf5 (by have := size_apply s o; omega)
       have HK5 : Hid (Kept (Foot bp bk rv) w4 w5 ∧ (∀ k, Foot bp bk5 rv5 k → Foot bp bk rv k ∨ w4.heap.size ≤ k) ∧ ∀ k, bk5.Seen k → bk.Seen k ∨ k = g) := ⟨K5, B5, S5⟩
       have hb5 : bp < w5.heap.size := Nat.lt_of_lt_of_le hb4 K5.size
       have HO : Hid (s.oneF o = ((settleF s.held.length (s.apply o)).1, (settleF s.held.length (s.apply o)).2 + 1, 0)) := by
        show s.oneF o = _
        unfold Pr.oneF
        rw [if_neg HA.out, if_neg HB.out, if_pos HCB.out]; rfl
       have hq : (settleF s.held.length (s.apply o)).2 ≤ 16 := Nat.le_trans (settleF_num _ _) hf.most
       obtain ⟨Q, hQ⟩ : ∃ Q, (settleF s.held.length (s.apply o)).2 = Q := ⟨_, rfl⟩
       have hhe : (s.apply o).held = s.held := rfl
       rw [hhe, hQ] at hdw
       rw [hQ] at hq
       have HQ : Hid ((settleF s.held.length (s.apply o)).2 = Q) := hQ
       clear hQ P5 H5 K5 B5 S5 hdl y0 y1 y2 y3 y4 y5 y6 y7 hhe
       go_wp2_with fail
       refine hdw.mono ?_
       rintro e6 w6 ⟨rfl, bk6, rv6, hv6, ms6, d6, D6⟩
       have HT : Hid _ := turn_delivered HH4.out.2.2 HK5.out.1 HK5.out.2.1 HK5.out.2.2 hgw D6
       clear D6 hdw
       go_wp2
       go_ret2
       rw [HR.out, HO.out]
       refine ⟨?_, HT.out⟩
       have e7 : (1 : Int) + (Q : Int) = ((Q + 1 : Nat) : Int) := by omega
       simp only [HQ.out]
       first
        | rfl
        | (rw [e7]; rfl)
      | false =>
       have HCB : Hid (s.can o = false) := hcb
       obtain ⟨cc0, cc1, cc2, cc3, cc4⟩ := P4.cells
       have hml : ms.length ≤ 16 := by have := hf.most; rw [← HP.out.2.2, List.length_map] at this; exact this
       have hmh : ms.length = s.held.length := by rw [← HP.out.2.2, List.length_map]
       have hwt := wait_any bp _ hv ms ⟨o, g, N⟩ w4 P4.block rfl H4.row (by omega)
       rw [hRO.seen] at hwt
       have HH4 : Hid (PeerS w4 bp s bk rv hv ∧ HeldAt w4 hv ms ∧ Kept (fun _ => False) w w4 ∧ w4.heap[g]? = some (.cells (u32s o.seen) 63 (0, 0))) := ⟨P4, H4, hkw4, hg4⟩
       obtain ⟨a, cp, hveq, _⟩ := opsV_of_own H4.row
       clear hcb P4 H4 hbox4 hg4 hkw4 hk4 cc0 cc1 cc2 cc3
       by_cases h16 : 16 ≤ s.held.length
       ·have HO : Hid (s.oneF o = (s, 0, 5)) := by
         show s.oneF o = _
         unfold Pr.oneF
         rw [if_neg HA.out, if_neg HB.out, HCB.out, if_neg (by decide), if_pos h16]
        have e1 : ms.length = 16 := by omega
        rw [hveq, e1] at cc4
        clear hwt hmh h16 e1 hml
        go_wp2
        go_ret2
        rw [HR.out, HO.out]
        exact ⟨rfl, Turn.stay ⟨bk, rv, hv, ms, HP.out.1, HP.out.2.1, HP.out.2.2, rfl⟩ HH4.out.2.2.1⟩
       ·have HO : Hid (s.oneF o = ({ s with held := waitIn s.held o }, 0, 0)) := by
         show s.oneF o = _
         unfold Pr.oneF
         rw [if_neg HA.out, if_neg HB.out, HCB.out, if_neg (by decide), if_neg h16]
        have e1 : ¬ (16 : Int) ≤ (ms.length : Int) := by omega
        have e2 : decide ((16 : Int) ≤ (ms.length : Int)) = false := by rw [decide_eq_false_iff_not]; exact e1
        have e3 : ¬ 16 ≤ ms.length := by omega
        have HV : Hid (hv = .slice a ms.length cp) := hveq
        rw [hveq] at cc4
        clear hmh h16 hveq
        go_wp2_with fail
        refine hwt.mono ?_
        rintro e5 w5 ⟨rfl, hv5, x1, x2, x3, x4⟩
        have HT : Hid _ := turn_waits (N := N) HH4.out.2.2.1 HH4.out.1 HH4.out.2.1 HP.out.2.2 hgw HH4.out.2.2.2 x1 x2 x3 x4
        clear x1 x2 x3 x4 hwt
        go_wp2
        go_ret2
        rw [HR.out, HO.out]
        exact ⟨rfl, HT.out⟩
end Go.Proofs.YtgfafbanahiigaaGreat
