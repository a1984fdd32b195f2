import Derived.Test.YtgfafbanahiigaaGreatRK
import Derived.Test.YtgfafbanahiigaaGreatHA
import Derived.Test.YtgfafbanahiigaaGreatRU
import Derived.Test.YtgfafbanahiigaaGreatMB
set_option linter.unusedVariables false
set_option linter.unusedSimpArgs false
namespace Go.Proofs.YtgfafbanahiigaaGreat
open Go.RowKit Go.Chorus
theorem info_line : (Tryz.prog.info? 139).map (fun i => (i.zero, i.size, i.bytes)) = some (some (.slice none 0 0), 1, 24) := by kernel_rfl
theorem hp_set {w : World} {bl g n cap : Nat} {hs : List Ln} (h : HpAt w bl (.slice (some ⟨g, 0, none⟩) n cap) hs) (i : Nat) (hi : i < hs.length) (l : Ln) (hl : LnAt w l) :
  HpAt (w.setCell ⟨g, i, none⟩ l.val) bl (.slice (some ⟨g, 0, none⟩) n cap) (hs.set i l) ∧ Kept (fun b => b = g) w (w.setCell ⟨g, i, none⟩ l.val) := by
 have K : Kept (fun b => b = g) w (w.setCell ⟨g, i, none⟩ l.val) := Kept.setCell (S := fun b => b = g) (Kept.refl _ w) (p := ⟨g, i, none⟩) (fun _ => rfl) _
 obtain ⟨h1, h2⟩ := h.row
 rcases h2 with ⟨e, _⟩ | ⟨g', cap', cur, e, hb, hg, hnc, hm, hsz, htk⟩
 ·cases e
 ·injection e with e1 e2 e3
  injection e1 with e1
  injection e1 with e1
  subst e1
  subst e2
  subst e3
  have hgl : g ≠ bl := fun e => by rw [e, h.box] at hg; simp at hg
  have hoff : ∀ (q : Ln), LnAt w q → q.g ≠ g := fun q hq e => by
   obtain ⟨c2, a, _⟩ := hq.at_
   rw [e, hg] at a
   simp at a
  refine ⟨⟨K.heap h.box (fun e => hgl e.symm), ⟨by simp, Or.inr ⟨g, cap, cur.setIfInBounds i l.val, by simp, hb, heap_set_same hg i l.val, by simpa using hnc, hm, by simpa using hsz, ?_⟩⟩, fun q hq => ?_⟩, K⟩
  ·rw [Array.toList_setIfInBounds, List.length_set, List.take_set, htk, List.map_set]
  ·rcases List.mem_or_eq_of_mem_set hq with hq | rfl
   ·exact (h.lines q hq).keep K (hoff q (h.lines q hq))
   ·exact hl.keep K (hoff _ hl)
theorem hp_swap {w : World} {bl : Nat} {v : Value} {hs : List Ln} (h : HpAt w bl v hs) (i j : Nat) (x y : Ln) (hi : hs[i]? = some x) (hj : hs[j]? = some y) :
  Calls Tryz.prog 135 #[v, .int .i64 i, .int .i64 j] w fun e' w' => e' = .returned (.tuple #[]) ∧ HpAt w' bl v (swapL hs i j x y) ∧ Kept (HpF bl v) w w' := by
 have hil := (List.getElem?_eq_some_iff.1 hi).1
 have hjl := (List.getElem?_eq_some_iff.1 hj).1
 obtain ⟨g, cap, cur, rfl, hg, hgl, hc⟩ := h.block (fun e => by rw [e] at hil; simp at hil)
 refine (lSwap_raw g hs.length cap i j x.val y.val cur w hil hjl hg (hc i x hi) (hc j y hj) ⟨_, _, _, rfl⟩ ⟨_, _, _, rfl⟩).mono ?_
 rintro e' w' ⟨rfl, rfl⟩
 have hd := h.quiet ((Kept.refl _ w).drew)
 obtain ⟨A1, A2⟩ := hp_set hd i hil y (hd.lines y (List.mem_of_getElem? hj))
 have hxl : LnAt (w.drew.setCell ⟨g, i, none⟩ y.val) x := by
  refine (hd.lines x (List.mem_of_getElem? hi)).keep A2 (fun e => ?_)
  obtain ⟨c2, a, _⟩ := (hd.lines x (List.mem_of_getElem? hi)).at_
  have hg' : w.drew.heap[g]? = some (.cells cur 139 (0, 0)) := hg
  rw [e, hg'] at a
  simp at a
 obtain ⟨B1, B2⟩ := hp_set A1 j (by rw [List.length_set]; exact hjl) x hxl
 refine ⟨rfl, B1, ?_⟩
 have k1 : Kept (fun b => b = g) w (w.drew.setCell ⟨g, i, none⟩ y.val) := (((Kept.refl (fun _ => False) w).drew).mono (fun _ _ h => h.elim)).trans A2 (fun _ _ h => h)
 exact (k1.trans B2 (fun _ _ h => h)).mono (fun b _ e => by subst e; exact Or.inr rfl)
set_option maxHeartbeats 1000000 in
set_option maxRecDepth 100000 in
theorem hp_pop {w : World} {bl : Nat} {v : Value} {hs : List Ln} {x : Ln} (h : HpAt w bl v (hs ++ [x])) (hn : hs.length ≤ 1000) :
  Calls Tryz.prog 136 #[.pointer (some ⟨bl, 0, none⟩)] w fun e' w' => e' = .returned (.iface 139 x.val) ∧ ∃ v', HpAt w' bl v' hs ∧ Kept (HpF bl v) w w' ∧ ∀ b, HpF bl v' b → HpF bl v b := by
 obtain ⟨g, cap, cur, rfl, hg, hgl, hc⟩ := h.block (by simp)
 have c0 := h.cell
 have z0 := lt_of_heap h.box
 have cx : w.cell? ⟨g, hs.length, none⟩ = some x.val := by rw [Lib.cell_of_heap hg]; exact hc hs.length x (by simp)
 have zg := lt_of_heap hg
 have f0 : ∀ j, w.frozen? ⟨bl, j, none⟩ = false := Lib.frozen_of_heap h.box
 have hcap : hs.length + 1 ≤ cap := by
  rcases h.row.2 with ⟨e, _⟩ | ⟨g', cap', cur', e, hb, hg', hnc, hm, hsz, htk⟩
  ·cases e
  ·injection e with e1 e2 e3
   subst e3
   simpa using hnc
 have hfin : Hid (HpAt (w.setCell ⟨bl, 0, none⟩ (.slice (some ⟨g, 0, none⟩) hs.length cap)) bl (.slice (some ⟨g, 0, none⟩) hs.length cap) hs ∧ Kept (HpF bl (.slice (some ⟨g, 0, none⟩) (hs ++ [x]).length cap)) w (w.setCell ⟨bl, 0, none⟩ (.slice (some ⟨g, 0, none⟩) hs.length cap))) := by
  have K : Kept (fun b => b = bl) w (w.setCell ⟨bl, 0, none⟩ (.slice (some ⟨g, 0, none⟩) hs.length cap)) := Kept.setCell (S := fun b => b = bl) (Kept.refl _ w) (p := ⟨bl, 0, none⟩) (fun _ => rfl) _
  refine ⟨⟨?_, ?_, fun q hq => ?_⟩, K.mono (fun b _ e => Or.inl e)⟩
  ·rw [heap_set_same h.box]; rfl
  ·obtain ⟨h1, h2⟩ := h.row
   rcases h2 with ⟨e, _⟩ | ⟨g', cap', cur', e, hb, hg', hnc, hm, hsz, htk⟩
   ·cases e
   ·injection e with e1 e2 e3
    injection e1 with e1
    injection e1 with e1
    subst e1
    subst e3
    refine ⟨by simp, Or.inr ⟨g, cap, cur', rfl, hb, K.heap hg' (fun e => hgl e), by omega, hm, hsz, ?_⟩⟩
    have h3 := congrArg (List.take hs.length) htk
    rw [List.take_take, List.map_append, List.length_append] at h3
    rw [Nat.mul_one]
    have h4 : min hs.length ((hs.length + [x].length) * 1) = hs.length := by simp
    rw [h4] at h3
    rw [h3]
    exact List.take_left' (by simp)
  ·refine (h.lines q (by simp [hq])).keep K (fun e => ?_)
   obtain ⟨c2, a, _⟩ := (h.lines q (by simp [hq])).at_
   rw [e, h.box] at a
   simp at a
 simp only [List.length_append, List.length_singleton] at c0
 obtain ⟨n, hnn⟩ : ∃ n, hs.length = n := ⟨_, rfl⟩
 rw [hnn] at c0 cx hcap hn
 have hlt : (n : Int) < (n : Int) + 1 := by omega
 have hx : x.val = .slice (some ⟨x.g, x.off, none⟩) x.ms.length x.cap := rfl
 rw [hx] at cx ⊢
 have HN : Hid (hs.length = n) := hnn
 clear h hg hc hnn hx
 go_enter Tryz.func136, Tryz.ntmps136
 go_wp2
 go_ret
 obtain ⟨a1, a2⟩ := hfin.out
 rw [HN.out] at a1 a2
 exact ⟨rfl, _, a1, a2, fun b hb => hb⟩
set_option maxHeartbeats 1000000 in
set_option maxRecDepth 100000 in
theorem hp_push {w : World} {bl : Nat} {v : Value} {hs : List Ln} {x : Ln} (h : HpAt w bl v hs) (hn : hs.length ≤ 1000) (hx : LnAt w x) :
  Calls Tryz.prog 137 #[.pointer (some ⟨bl, 0, none⟩), .iface 139 x.val] w fun e' w' => e' = .returned (.tuple #[]) ∧ ∃ v', HpAt w' bl v' (hs ++ [x]) ∧ Kept (HpF bl v) w w' ∧ ∀ b, HpF bl v' b → HpF bl v b ∨ w.heap.size ≤ b := by
 have c0 := h.cell
 have z0 := lt_of_heap h.box
 obtain ⟨a0, c00, hv0, _, _⟩ := own_slice h.row
 subst hv0
 have hpb : (Value.slice a0 hs.length c00).ownBlock ≠ some bl := own_ne h.row h.box (by decide)
 have HB : Hid (w.heap[bl]? = some (.cells #[.slice a0 hs.length c00] 136 (0, 0))) := h.box
 have hfin : ∀ (w1 : World) (av : Option Addr) (cv : Nat), Kept (fun b => (Value.slice a0 hs.length c00).ownBlock = some b) w w1 → w1.ownsRow 0 139 1 (.slice av (hs.length + 1) cv) (hs.length + 1) (hs.map Ln.val ++ [x.val]) → (∀ b, (Value.slice av (hs.length + 1) cv).ownBlock = some b → (Value.slice a0 hs.length c00).ownBlock = some b ∨ w.heap.size ≤ b) →
   HpAt (w1.setCell ⟨bl, 0, none⟩ (.slice av (hs.length + 1) cv)) bl (.slice av (hs.length + 1) cv) (hs ++ [x]) ∧ Kept (HpF bl (.slice a0 hs.length c00)) w (w1.setCell ⟨bl, 0, none⟩ (.slice av (hs.length + 1) cv)) ∧ ∀ b, HpF bl (.slice av (hs.length + 1) cv) b → HpF bl (.slice a0 hs.length c00) b ∨ w.heap.size ≤ b := by
  intro w1 av cv k1 hown' hblk
  have hbx1 := k1.heap h.box hpb
  have kS : Kept (fun b => b = bl) w1 (w1.setCell ⟨bl, 0, none⟩ (.slice av (hs.length + 1) cv)) := Kept.setCell (S := fun b => b = bl) (Kept.refl _ w1) (p := ⟨bl, 0, none⟩) (fun _ => rfl) _
  have kA : Kept (HpF bl (.slice a0 hs.length c00)) w (w1.setCell ⟨bl, 0, none⟩ (.slice av (hs.length + 1) cv)) := (k1.mono (fun _ _ h => Or.inr h)).trans kS (fun _ _ h => Or.inl h)
  refine ⟨⟨?_, ?_, fun q hq => ?_⟩, kA, fun b hb => ?_⟩
  ·rw [heap_set_same hbx1]; rfl
  ·rw [List.length_append, List.map_append]
   refine ownsRow_kept hown' kS (fun b hb e => ?_)
   rcases hblk b hb with h1 | h1
   ·rw [e] at h1; exact hpb h1
   ·omega
  ·have hq2 : LnAt w q := by
    rcases List.mem_append.1 hq with hq | hq
    ·exact h.lines q hq
    ·rw [List.mem_singleton.1 hq]; exact hx
   refine hq2.keep kA (fun e => ?_)
   obtain ⟨c2, a, _⟩ := hq2.at_
   rcases e with e | e
   ·rw [e, h.box] at a; simp at a
   ·exact own_ne h.row a (by decide) e
  ·rcases hb with hb | hb
   ·exact Or.inl (Or.inl hb)
   ·rcases hblk b hb with h1 | h1
    ·exact Or.inl (Or.inr h1)
    ·exact Or.inr h1
 have hrow := h.row
 have hxv : x.val = .slice (some ⟨x.g, x.off, none⟩) x.ms.length x.cap := rfl
 rw [hxv]
 clear h hx
 go_enter Tryz.func137, Tryz.ntmps137
 go_wp2_with fail
 refine wp_region_tailB (by kernel_rfl) 8 _ rfl (by kernel_rfl) (fun b => (Value.slice a0 hs.length c00).ownBlock = some b) 7 (fun i u wx => match i with
  | 0 => u = .pointer (some ⟨bl, 0, none⟩)
  | 1 => u = .pointer (some ⟨bl, 0, none⟩)
  | 2 => u = .pointer (some ⟨bl, 0, none⟩)
  | 3 => u = .slice a0 hs.length c00
  | 4 => u = .iface 139 (.slice (some ⟨x.g, x.off, none⟩) x.ms.length x.cap)
  | 5 => u = .slice (some ⟨x.g, x.off, none⟩) x.ms.length x.cap
  | 6 => ∃ b, u = .slice (some ⟨b, 0, none⟩) 1 1 ∧ wx.heap[b]? = some (.cells #[.slice (some ⟨x.g, x.off, none⟩) x.ms.length x.cap] 139 (0, 0)) ∧ w.heap.size ≤ b
  | 7 => wx.ownsRow 0 139 1 u (hs.length + 1) (hs.map Ln.val ++ [x.val]) ∧ ∀ b, u.ownBlock = some b → (Value.slice a0 hs.length c00).ownBlock = some b ∨ w.heap.size ≤ b
  | _ => True) ?_ ?_ ?_ ?_ ?_
 ·intro i u wa wb hu hk
  split at hu
  case h_7 =>
   obtain ⟨b, h1, h2, h3⟩ := hu
   exact ⟨b, h1, hk.heap h2 (fun h => h), h3⟩
  case h_8 => exact ⟨ownsRow_kept hu.1 hk (fun _ _ h => h), hu.2⟩
  all_goals exact hu
 ·intro i u wa wb hi hu hk
  split at hu
  case h_7 =>
   obtain ⟨b, h1, h2, h3⟩ := hu
   exact ⟨b, h1, hk.heap h2 (fun h => by have := hrow.lt b h; omega), h3⟩
  case h_8 => exact absurd rfl hi
  all_goals exact hu
 ·intro i o hi8 hi7 hi a w1 hk up
  have hk' : Kept (fun b => (Value.slice a0 hs.length c00).ownBlock = some b) w w1 := (((Kept.refl (fun _ => False) w).drew).mono (fun _ _ h => h.elim)).trans hk (fun _ _ h => h)
  have d0 : w1.cell? ⟨bl, 0, none⟩ = some (.slice a0 hs.length c00) := hk'.cell' c0 hpb
  have hold : ∀ d : Nat, d < 2 → a.tmps[d]? = _ := fun d hd => up.old d (by
   intro j oj hj hjd
   exfalso
   rcases j with _ | _ | _ | _ | _ | _ | _ | _ | _ | _ | j <;> simp at hj <;> subst hj <;> simp at hjd <;> omega)
  have o0 := hold 0 (by decide)
  have o1 := hold 1 (by decide)
  simp at o0 o1
  clear hold
  rcases i with _ | _ | _ | _ | _ | _ | _ | _ | i
  all_goals simp only [List.getElem?_cons_zero, List.getElem?_cons_succ, List.getElem?_nil, Option.some.injEq, reduceCtorEq] at hi
  all_goals try subst hi
  ·simp [Oper.wp, go_sem, Act.eval, o0]
   exact ⟨_, rfl, rfl, Kept.refl _ _⟩
  ·simp [Oper.wp, go_sem, Act.eval, o0]
   exact ⟨_, rfl, rfl, Kept.refl _ _⟩
  ·obtain ⟨_, s1, rfl⟩ := up.d 1 5 rfl rfl
   simp [Oper.wp, go_sem, Act.eval, s1]
   exact ⟨_, rfl, rfl, Kept.refl _ _⟩
  ·obtain ⟨_, s2, rfl⟩ := up.d 2 6 rfl rfl
   simp [Oper.wp, go_sem, Act.eval, s2, d0]
   exact ⟨_, rfl, rfl, Kept.refl _ _⟩
  ·simp [Oper.wp, go_sem, Act.eval, o1]
   exact ⟨_, rfl, rfl, Kept.refl _ _⟩
  ·obtain ⟨_, s4, rfl⟩ := up.d 4 8 rfl rfl
   simp [Oper.wp, go_sem, Act.eval, s4]
   exact ⟨_, rfl, rfl, Kept.refl _ _⟩
  ·obtain ⟨_, s5, rfl⟩ := up.d 5 9 rfl rfl
   simp [Oper.wp, go_sem, Act.eval, s5]
   exact ⟨_, rfl, ⟨_, rfl, heap_alloc_new w1 _, hk'.size⟩, (Kept.refl _ _).alloc _⟩
  ·exact absurd rfl hi7
  ·omega
 ·intro o _ ho a w1 hk up
  simp only [List.getElem?_cons_zero, List.getElem?_cons_succ, List.getElem?_nil, Option.some.injEq, reduceCtorEq] at ho
  subst ho
  obtain ⟨_, s3, rfl⟩ := up.d 3 7 rfl rfl
  obtain ⟨v6, s6, vb, hv6, hvb, hvz⟩ := up.dep ⟨6, .data⟩ (by simp) rfl _ 10 rfl rfl
  subst hv6
  have hvb' : w1.heap[vb]? = some (.cells #[x.val] 139 (0, 0)) := hvb
  have hk' : Kept (fun _ => False) w w1 := ((Kept.refl _ w).drew).trans' hk
  obtain ⟨i0, hi0, hz0, hzs, hzb⟩ := info_parts info_line
  obtain ⟨v', w', hr, hown', hkp, hblk⟩ := append_strong Tryz.prog w1 136 136 139 i0 _ 1 24 Tryz.underlying136 hi0 hz0 hzs hzb rfl (by decide) (.slice a0 hs.length c00) hs.length _ (ownsRow_kept hrow hk' (fun _ _ h => h)) (.slice (some ⟨vb, 0, none⟩) 1 1) 1 [x.val]
   (Src.ofSlice _ Tryz.underlying136 ⟨vb, 0, none⟩ 1 1 _ rfl (fun j u hj => by rw [Addr.add_lit, Lib.cell_of_heap hvb']; simpa using hj) (fun u hu => by simp at hu; subst hu; rfl)) (by decide) (by unfold maxLen; omega) (by omega)
  refine Lib.wp_append_run w1 _ _ _ _ rfl (.slice a0 hs.length c00) (.slice (some ⟨vb, 0, none⟩) 1 1) (by simp [Act.eval, s3]) (by simp [Act.eval, s6]) v' w' (hr _) ?_
  refine ⟨v', rfl, ⟨hown', fun k hk2 => ?_⟩, hkp⟩
  rcases hblk k hk2 with h1 | h1
  ·exact Or.inl h1
  ·exact Or.inr (Nat.le_trans hk'.size h1)
 ·intro vals w1 hk hv
  have h0 : vals 0 = _ := hv 0 (by decide)
  obtain ⟨h7, h7b⟩ := hv 7 (by decide)
  obtain ⟨v', hv'⟩ : ∃ v', vals 7 = v' := ⟨_, rfl⟩
  rw [hv'] at h7 h7b
  obtain ⟨av, cv, rfl, _, _⟩ := own_slice h7
  have k1 : Kept (fun b => (Value.slice a0 hs.length c00).ownBlock = some b) w w1 := (((Kept.refl (fun _ => False) w).drew).mono (fun _ _ h => h.elim)).trans hk (fun _ _ h => h)
  have HF : Hid _ := hfin w1 av cv k1 h7 h7b
  have hbx1 := k1.heap HB.out hpb
  have d0 : w1.cell? ⟨bl, 0, none⟩ = some (.slice a0 hs.length c00) := by rw [Lib.cell_of_heap hbx1]; rfl
  have dz := lt_of_heap hbx1
  have df : ∀ j, w1.frozen? ⟨bl, j, none⟩ = false := Lib.frozen_of_heap hbx1
  clear h7 h7b hbx1 k1 hfin hrow hv
  simp only [List.take_succ_cons, List.take_zero, List.drop_succ_cons, List.drop_zero, putAll, h0, hv']
  go_wp2
  go_end0
  exact ⟨rfl, _, HF.out⟩
set_option maxHeartbeats 1000000 in
set_option maxRecDepth 100000 in
theorem hp_up0 (h : Value) (w : World) : Calls Tryz.prog 93 #[h, .int .i64 0] w fun e' w' => e' = .returned (.tuple #[]) ∧ w' = w := by
 go_enter Tryz.func93, Tryz.ntmps93
 go_wp2
 go_loopw [1] (fun jv wr => jv = .int .i64 0 ∧ wr = w) (fun _ _ => 0)
 case atStart => exact ⟨rfl, rfl⟩
 case round =>
  obtain ⟨rfl, rfl⟩ := hrel
  go_wp2
  go_end0
  exact ⟨rfl, rfl⟩
def Ln.next (l : Ln) : Ln := ⟨l.g, l.off + 8, l.cap - 1, l.ms.tail⟩
theorem LnAt.next {w : World} {l : Ln} (h : LnAt w l) (h2 : 2 ≤ l.ms.length) : LnAt w l.next := by
 obtain ⟨cur, a, b⟩ := h.at_
 refine ⟨fun e => ?_, ?_, cur, a, fun i m hi j u hu => ?_⟩
 ·have : l.ms.tail.length = 0 := by
   have e' : l.ms.tail = [] := e
   rw [e']; rfl
  rw [List.length_tail] at this
  omega
 ·show l.ms.tail.length ≤ l.cap - 1
  have := h.room
  rw [List.length_tail]
  omega
 ·have hi' : l.ms[i + 1]? = some m := by
   have h3 : l.ms.tail[i]? = some m := hi
   rw [List.getElem?_tail] at h3
   exact h3
  have := b (i + 1) m hi' j u hu
  show cur[l.off + 8 + i * 8 + j]? = some u
  rw [show l.off + 8 + i * 8 + j = l.off + (i + 1) * 8 + j by omega]
  exact this
def lnAt (d : Ln) (hs : List Ln) (i : Nat) : Ln := hs.getD i d
theorem lnAt_some {d : Ln} {hs : List Ln} {i : Nat} {x : Ln} (h : hs[i]? = some x) : lnAt d hs i = x := by
 unfold lnAt; rw [List.getD_eq_getElem?_getD, h]; rfl
theorem swapL_at (d : Ln) (hs : List Ln) (i j : Nat) (x y : Ln) (hi : hs[i]? = some x) (hj : hs[j]? = some y) : lnAt d (swapL hs i j x y) = sw (lnAt d hs) i j := by
 have hil := (List.getElem?_eq_some_iff.1 hi).1
 have hjl := (List.getElem?_eq_some_iff.1 hj).1
 funext k
 unfold sw
 have e : lnAt d (swapL hs i j x y) k = if k = i then y else if k = j then x else lnAt d hs k := by
  unfold lnAt swapL
  simp only [List.getD_eq_getElem?_getD, List.getElem?_set]
  by_cases h1 : k = i
  ·subst h1
   by_cases h2 : j = k
   ·subst h2
    rw [hi] at hj; cases hj
    simp [hil]
   ·simp [h2, hil]
  ·by_cases h2 : k = j
   ·subst h2
    simp [h1, hjl, Ne.symm h1]
   ·simp [h1, h2, Ne.symm h1, Ne.symm h2]
 rw [e, lnAt_some hi, lnAt_some hj]
theorem swapL_perm (hs : List Ln) (i j : Nat) (x y : Ln) (hi : hs[i]? = some x) (hj : hs[j]? = some y) : (swapL hs i j x y).Perm hs := by
 obtain ⟨hil, rfl⟩ := List.getElem?_eq_some_iff.1 hi
 obtain ⟨hjl, rfl⟩ := List.getElem?_eq_some_iff.1 hj
 exact List.set_set_perm hil hjl
def NegL (hs : List Ln) : Prop := ∀ x ∈ hs, Ln.ops x ≠ []
theorem NegL.neg {hs : List Ln} (h : NegL hs) (d : Ln) : NegF (lessA Ln.ops) (lnAt d hs) hs.length := by
 intro i j k hi hj hk
 have m : ∀ i, i < hs.length → Ln.ops (lnAt d hs i) ≠ [] := fun i hi => by
  rw [lnAt_some (List.getElem?_eq_getElem hi)]
  exact h _ (List.getElem_mem hi)
 exact lessA_neg (m i hi) (m j hj) (m k hk)
theorem NegL.perm {hs hs' : List Ln} (h : NegL hs) (p : hs'.Perm hs) : NegL hs' := fun x hx => h x (p.mem_iff.1 hx)
def UpPost (bl : Nat) (v : Value) (d : Ln) (hs : List Ln) (w : World) (e' : Ending) (w' : World) : Prop := e' = .returned (.tuple #[]) ∧ ∃ hs', HpAt w' bl v hs' ∧ hs'.Perm hs ∧ HeapF (lessA Ln.ops) (lnAt d hs') hs.length ∧ Kept (HpF bl v) w w'
set_option maxHeartbeats 1000000 in
set_option maxRecDepth 100000 in
theorem hp_up_any {w : World} {bl : Nat} {v : Value} {hs : List Ln} (H : HpAt w bl v hs) (d : Ln) (hneg : NegL hs) (j : Nat) (hj : j < hs.length) (h8 : hs.length ≤ 65536) (hU : UpI (lessA Ln.ops) (lnAt d hs) hs.length j) :
  Calls Tryz.prog 93 #[.iface 138 (.pointer (some ⟨bl, 0, none⟩)), .int .i64 j] w (UpPost bl v d hs w) := by
 go_enter Tryz.func93, Tryz.ntmps93
 go_wp2
 go_loopw [1] (fun jv wr => ∃ j : Nat, jv = .int .i64 j ∧ j < hs.length ∧ Hid (∃ hs', HpAt wr bl v hs' ∧ hs'.Perm hs ∧ UpI (lessA Ln.ops) (lnAt d hs') hs.length j ∧ Kept (HpF bl v) w wr)) (fun jv _ => (intOf jv).toNat)
 case atStart => exact ⟨j, rfl, hj, hs, H, List.Perm.refl _, hU, Kept.refl _ _⟩
 case round =>
  obtain ⟨j, rfl, hj, R⟩ := hrel
  obtain ⟨hs', H', hp, hU', hk'⟩ := R.out
  by_cases hj0 : j = 0
  ·subst hj0
   have R2 : Hid (∃ hs', HpAt wr bl v hs' ∧ hs'.Perm hs ∧ HeapF (lessA Ln.ops) (lnAt d hs') hs.length ∧ Kept (HpF bl v) w wr) := ⟨hs', H', hp, up_end hU' (Or.inl rfl), hk'⟩
   clear R H' hp hU' hk' H hU
   simp only [Int.natCast_zero]
   go_wp2
   go_end0
   exact ⟨rfl, R2.out⟩
  ·have hlen : hs'.length = hs.length := hp.length_eq
   obtain ⟨i, hi⟩ : ∃ i, (j - 1) / 2 = i := ⟨_, rfl⟩
   have hij : i < j := by omega
   have htd : ((j : Int) - 1).tdiv 2 = (i : Int) := by
    rw [Int.tdiv_eq_ediv_of_nonneg (by omega)]
    omega
   have hwr : IntKind.i64.wrap ((j : Int) - 1) = (j : Int) - 1 := by rw [IntKind.wrap_i64]; omega
   have hwi : IntKind.i64.wrap (i : Int) = (i : Int) := by rw [IntKind.wrap_i64]; omega
   have hne : ((i : Int) == (j : Int)) = false := by rw [beq_eq_false_iff_ne]; omega
   obtain ⟨x, hx⟩ : ∃ x, hs'[j]? = some x := ⟨_, List.getElem?_eq_getElem (by omega)⟩
   obtain ⟨y, hy⟩ : ∃ y, hs'[i]? = some y := ⟨_, List.getElem?_eq_getElem (by omega)⟩
   have hl := hp_less H' j i x y hx hy
   have m1 := meth_less bl v wr H'.cell
   have HI : Hid ((j - 1) / 2 = i ∧ hs'[j]? = some x ∧ hs'[i]? = some y ∧ hs'.length = hs.length ∧ ¬ j = 0) := ⟨hi, hx, hy, hlen, hj0⟩
   have HX : Hid (HpAt wr bl v hs' ∧ hs'.Perm hs ∧ UpI (lessA Ln.ops) (lnAt d hs') hs.length j ∧ Kept (HpF bl v) w wr) := ⟨H', hp, hU', hk'⟩
   clear R hi hx hy hlen hp hU' hk' H hU hj0
   go_wp2_with fail
   refine hl.mono ?_
   rintro e1 w1 ⟨rfl, hk1⟩
   have H1 := H'.quiet hk1
   have m2 := meth_swap bl v w1 H1.cell
   clear hl m1 H'
   by_cases hb : lessA Ln.ops x y = true
   ·have hs1 := hp_swap H1 i j y x HI.out.2.2.1 HI.out.2.1
    go_wp2_with fail
    refine hs1.mono ?_
    rintro e2 w2 ⟨rfl, H2, hk2⟩
    have R : Hid (∃ hs', HpAt w2 bl v hs' ∧ hs'.Perm hs ∧ UpI (lessA Ln.ops) (lnAt d hs') hs.length i ∧ Kept (HpF bl v) w w2) := by
     obtain ⟨q1, q2, q3, q4, q5⟩ := HI.out
     obtain ⟨X1, X2, X3, X4⟩ := HX.out
     have hn := (hneg.perm X2).neg d
     rw [q4] at hn
     have hst := up_step (fun _ _ h => lessA_asymm h) hn X3 (by omega) hj (by rw [q1, lnAt_some q2, lnAt_some q3]; exact hb)
     rw [q1, ← swapL_at d hs' i j y x q3 q2] at hst
     exact ⟨_, H2, (swapL_perm hs' i j y x q3 q2).trans X2, hst, (X4.trans' (hk1.mono (fun _ _ h => h.elim))).trans' hk2⟩
    clear hs1 m2 H1 H2 hk2
    go_wp2
    go_roundw
    case rel => exact ⟨i, rfl, by omega, R⟩
    case measure => simp [intOf]; omega
   ·have hb' : lessA Ln.ops x y = false := by simpa using hb
    have R : Hid (∃ hs', HpAt w1 bl v hs' ∧ hs'.Perm hs ∧ HeapF (lessA Ln.ops) (lnAt d hs') hs.length ∧ Kept (HpF bl v) w w1) := by
     obtain ⟨q1, q2, q3, q4, q5⟩ := HI.out
     obtain ⟨X1, X2, X3, X4⟩ := HX.out
     exact ⟨hs', H1, X2, up_end X3 (Or.inr (by rw [q1, lnAt_some q2, lnAt_some q3]; exact hb')), X4.trans' (hk1.mono (fun _ _ h => h.elim))⟩
    clear m2 hb H1
    go_wp2
    go_end0
    exact ⟨rfl, R.out⟩
theorem lessA_irr (x : Ln) : lessA Ln.ops x x = false := by
 cases h : lessA Ln.ops x x with
 | false => rfl
 | true => rw [← h]; exact lessA_asymm h
theorem swapL_left (A B : List Ln) (i j : Nat) (x y : Ln) (hi : i < A.length) (hj : j < A.length) : swapL (A ++ B) i j x y = swapL A i j x y ++ B := by
 unfold swapL
 rw [List.set_append_left _ _ hi, List.set_append_left _ _ (by rw [List.length_set]; exact hj)]
def DownPost (bl : Nat) (v : Value) (d : Ln) (A B : List Ln) (w : World) (e' : Ending) (w' : World) : Prop := ∃ r, e' = .returned (.bool r) ∧ ∃ A', HpAt w' bl v (A' ++ B) ∧ A'.Perm A ∧ HeapF (lessA Ln.ops) (lnAt d A') A.length ∧ Kept (HpF bl v) w w'
theorem at_left {A B : List Ln} {k : Nat} {x : Ln} (h : A[k]? = some x) : (A ++ B)[k]? = some x := by
 rw [List.getElem?_append_left (List.getElem?_eq_some_iff.1 h).1]; exact h
theorem down_on {w wr w1 w2 : World} {bl : Nat} {v : Value} {d : Ln} {A A' B : List Ln} {i j : Nat} {y x : Ln} (hp : A'.Perm A) (hD : DownI (lessA Ln.ops) (lnAt d A') A.length i) (hk : Kept (HpF bl v) w wr) (hy : A'[i]? = some y) (hx : A'[j]? = some x) (hj0 : 0 < j) (hji : (j - 1) / 2 = i) (hb : lessA Ln.ops x y = true) (hs : ∀ c z, A'[c]? = some z → 0 < c → (c - 1) / 2 = i → lessA Ln.ops z x = false) (hk1 : Kept (fun _ => False) wr w1) (H2 : HpAt w2 bl v (swapL (A' ++ B) i j y x)) (hk2 : Kept (HpF bl v) w1 w2) :
  ∃ A', HpAt w2 bl v (A' ++ B) ∧ A'.Perm A ∧ DownI (lessA Ln.ops) (lnAt d A') A.length j ∧ Kept (HpF bl v) w w2 := by
 have hlen := hp.length_eq
 have hil := (List.getElem?_eq_some_iff.1 hy).1
 have hjl := (List.getElem?_eq_some_iff.1 hx).1
 rw [swapL_left A' B i j y x hil hjl] at H2
 have hst := down_step (fun _ _ h => lessA_asymm h) hD hj0 (by omega) hji (by rw [lnAt_some hx, lnAt_some hy]; exact hb) (fun c c0 hc hq => by
  rw [lnAt_some hx, lnAt_some (List.getElem?_eq_getElem (by omega : c < A'.length))]
  exact hs c _ (List.getElem?_eq_getElem _) c0 hq)
 rw [← swapL_at d A' i j y x hy hx] at hst
 exact ⟨_, H2, (swapL_perm A' i j y x hy hx).trans hp, hst, (hk.trans' (hk1.mono (fun _ _ h => h.elim))).trans' hk2⟩
theorem down_off {w wr w1 : World} {bl : Nat} {v : Value} {d : Ln} {A A' B : List Ln} {i j : Nat} {y x : Ln} (hp : A'.Perm A) (hneg : NegL A) (hD : DownI (lessA Ln.ops) (lnAt d A') A.length i) (hk : Kept (HpF bl v) w wr) (hy : A'[i]? = some y) (hx : A'[j]? = some x) (hb : lessA Ln.ops x y = false) (hs : ∀ c z, A'[c]? = some z → 0 < c → (c - 1) / 2 = i → lessA Ln.ops z x = false) (hk1 : Kept (fun _ => False) wr w1) (H1 : HpAt w1 bl v (A' ++ B)) :
  ∃ A', HpAt w1 bl v (A' ++ B) ∧ A'.Perm A ∧ HeapF (lessA Ln.ops) (lnAt d A') A.length ∧ Kept (HpF bl v) w w1 := by
 have hlen := hp.length_eq
 have hn := hneg.perm hp
 refine ⟨A', H1, hp, down_end hD (fun c c0 hc hq => ?_), hk.trans' (hk1.mono (fun _ _ h => h.elim))⟩
 have hcl : c < A'.length := by omega
 have hz := List.getElem?_eq_getElem hcl
 rw [lnAt_some hz, lnAt_some hy]
 exact lessA_neg (hn _ (List.mem_of_getElem? hz)) (hn _ (List.mem_of_getElem? hx)) (hn _ (List.mem_of_getElem? hy)) (hs c _ hz c0 hq) hb
set_option maxHeartbeats 2000000 in
set_option maxRecDepth 100000 in
theorem hp_down_any {w : World} {bl : Nat} {v : Value} {A B : List Ln} (H : HpAt w bl v (A ++ B)) (d : Ln) (hneg : NegL A) (h8 : A.length ≤ 65536) (hD : DownI (lessA Ln.ops) (lnAt d A) A.length 0) :
  Calls Tryz.prog 106 #[.iface 138 (.pointer (some ⟨bl, 0, none⟩)), .int .i64 0, .int .i64 A.length] w (DownPost bl v d A B w) := by
 obtain ⟨n, hn⟩ : ∃ n, A.length = n := ⟨_, rfl⟩
 have HN : Hid (A.length = n) := hn
 rw [hn] at h8
 rw [hn]
 clear hn
 go_enter Tryz.func106, Tryz.ntmps106
 go_wp2
 go_loopw [7] (fun jv wr => ∃ i : Nat, jv = .int .i64 i ∧ i ≤ n ∧ Hid (∃ A', HpAt wr bl v (A' ++ B) ∧ A'.Perm A ∧ DownI (lessA Ln.ops) (lnAt d A') A.length i ∧ Kept (HpF bl v) w wr)) (fun jv _ => n - (intOf jv).toNat)
 case atStart => exact ⟨0, rfl, Nat.zero_le _, A, H, List.Perm.refl _, hD, Kept.refl _ _⟩
 case round =>
  obtain ⟨i, rfl, hi, R⟩ := hrel
  by_cases hj1 : 2 * i + 1 < n
  case neg =>
   have hj1i : (n : Int) ≤ 2 * (i : Int) + 1 := by omega
   have R2 : Hid (∃ A', HpAt wr bl v (A' ++ B) ∧ A'.Perm A ∧ HeapF (lessA Ln.ops) (lnAt d A') A.length ∧ Kept (HpF bl v) w wr) := by
    obtain ⟨A', H', hp, hD', hk'⟩ := R.out
    exact ⟨A', H', hp, down_end hD' (fun c c0 hc hq => by have := HN.out; omega), hk'⟩
   clear R H hD
   go_wp2
   go_ret
   exact ⟨_, rfl, R2.out⟩
  have hj1i : ¬ (n : Int) ≤ 2 * (i : Int) + 1 := by omega
  have hj1p : ¬ 2 * (i : Int) + 1 < 0 := by omega
  obtain ⟨A', H', hp, hD', hk'⟩ := R.out
  have hlen : A'.length = n := by rw [← HN.out]; exact hp.length_eq
  obtain ⟨y, hy⟩ : ∃ y, A'[i]? = some y := ⟨_, List.getElem?_eq_getElem (by omega)⟩
  obtain ⟨x1, hx1⟩ : ∃ x, A'[2 * i + 1]? = some x := ⟨_, List.getElem?_eq_getElem (by omega)⟩
  have HX : Hid (A'.Perm A ∧ DownI (lessA Ln.ops) (lnAt d A') A.length i ∧ Kept (HpF bl v) w wr ∧ A'[i]? = some y ∧ A'[2 * i + 1]? = some x1 ∧ A'.length = n) := ⟨hp, hD', hk', hy, hx1, hlen⟩
  have m1 := meth_less bl v wr H'.cell
  by_cases hj2 : 2 * i + 2 < n
  ·have hj2i : 2 * (i : Int) + 1 + 1 < (n : Int) := by omega
   obtain ⟨x2, hx2⟩ : ∃ x, A'[2 * i + 2]? = some x := ⟨_, List.getElem?_eq_getElem (by omega)⟩
   have HX2 : Hid (A'[2 * i + 2]? = some x2) := hx2
   have hl := hp_less H' (2 * i + 2) (2 * i + 1) x2 x1 (at_left hx2) (at_left hx1)
   rw [show ((2 * i + 2 : Nat) : Int) = 2 * (i : Int) + 1 + 1 from by omega, show ((2 * i + 1 : Nat) : Int) = 2 * (i : Int) + 1 from by omega] at hl
   clear R hp hD' hk' hy hx1 hx2 hlen H hD
   go_wp2_with fail
   refine hl.mono ?_
   rintro e0 w0 ⟨rfl, hk0⟩
   have H0 := H'.quiet hk0
   clear hl m1 H'
   have m1 := meth_less bl v w0 H0.cell
   by_cases hc : lessA Ln.ops x2 x1 = true
   ·have HS : Hid (∀ c z, A'[c]? = some z → 0 < c → (c - 1) / 2 = i → lessA Ln.ops z x2 = false) := fun c z hz c0 hq => by
     have : c = 2 * i + 1 ∨ c = 2 * i + 2 := by omega
     rcases this with rfl | rfl
     ·rw [HX.out.2.2.2.2.1] at hz; cases hz; exact lessA_asymm hc
     ·rw [HX2.out] at hz; cases hz; exact lessA_irr _
    have hl := hp_less H0 (2 * i + 2) i x2 y (at_left HX2.out) (at_left HX.out.2.2.2.1)
    rw [show ((2 * i + 2 : Nat) : Int) = 2 * (i : Int) + 1 + 1 from by omega] at hl
    go_wp2_with fail
    refine hl.mono ?_
    rintro e1 w1 ⟨rfl, hk1⟩
    have H1 := H0.quiet hk1
    have m2 := meth_swap bl v w1 H1.cell
    clear hl m1 H0
    by_cases hb : lessA Ln.ops x2 y = true
    ·have hs1 := hp_swap H1 i (2 * i + 2) y x2 (at_left HX.out.2.2.2.1) (at_left HX2.out)
     rw [show ((2 * i + 2 : Nat) : Int) = 2 * (i : Int) + 1 + 1 from by omega] at hs1
     go_wp2_with fail
     refine hs1.mono ?_
     rintro e2 w2 ⟨rfl, H2, hk2⟩
     have R : Hid (∃ A', HpAt w2 bl v (A' ++ B) ∧ A'.Perm A ∧ DownI (lessA Ln.ops) (lnAt d A') A.length (2 * i + 2) ∧ Kept (HpF bl v) w w2) :=
      down_on HX.out.1 HX.out.2.1 HX.out.2.2.1 HX.out.2.2.2.1 HX2.out (by omega) (by omega) hb HS.out (hk0.trans' hk1) H2 hk2
     clear hs1 m2 H1 H2 hk2
     go_wp2
     go_roundw
     case rel => exact ⟨2 * i + 2, by congr 1, by omega, R⟩
     case measure => simp [intOf]; omega
    ·have hb' : lessA Ln.ops x2 y = false := by simpa using hb
     have R : Hid (∃ A', HpAt w1 bl v (A' ++ B) ∧ A'.Perm A ∧ HeapF (lessA Ln.ops) (lnAt d A') A.length ∧ Kept (HpF bl v) w w1) :=
      down_off HX.out.1 hneg HX.out.2.1 HX.out.2.2.1 HX.out.2.2.2.1 HX2.out hb' HS.out (hk0.trans' hk1) H1
     clear m2 hb H1
     go_wp2
     go_ret
     exact ⟨_, rfl, R.out⟩
   ·have hc' : lessA Ln.ops x2 x1 = false := by simpa using hc
    have HS : Hid (∀ c z, A'[c]? = some z → 0 < c → (c - 1) / 2 = i → lessA Ln.ops z x1 = false) := fun c z hz c0 hq => by
     have : c = 2 * i + 1 ∨ c = 2 * i + 2 := by omega
     rcases this with rfl | rfl
     ·rw [HX.out.2.2.2.2.1] at hz; cases hz; exact lessA_irr _
     ·rw [HX2.out] at hz; cases hz; exact hc'
    clear hc
    have hl := hp_less H0 (2 * i + 1) i x1 y (at_left HX.out.2.2.2.2.1) (at_left HX.out.2.2.2.1)
    rw [show ((2 * i + 1 : Nat) : Int) = 2 * (i : Int) + 1 from by omega] at hl
    go_wp2_with fail
    refine hl.mono ?_
    rintro e1 w1 ⟨rfl, hk1⟩
    have H1 := H0.quiet hk1
    have m2 := meth_swap bl v w1 H1.cell
    clear hl m1 H0
    by_cases hb : lessA Ln.ops x1 y = true
    ·have hs1 := hp_swap H1 i (2 * i + 1) y x1 (at_left HX.out.2.2.2.1) (at_left HX.out.2.2.2.2.1)
     rw [show ((2 * i + 1 : Nat) : Int) = 2 * (i : Int) + 1 from by omega] at hs1
     go_wp2_with fail
     refine hs1.mono ?_
     rintro e2 w2 ⟨rfl, H2, hk2⟩
     have R : Hid (∃ A', HpAt w2 bl v (A' ++ B) ∧ A'.Perm A ∧ DownI (lessA Ln.ops) (lnAt d A') A.length (2 * i + 1) ∧ Kept (HpF bl v) w w2) :=
      down_on HX.out.1 HX.out.2.1 HX.out.2.2.1 HX.out.2.2.2.1 HX.out.2.2.2.2.1 (by omega) (by omega) hb HS.out (hk0.trans' hk1) H2 hk2
     clear hs1 m2 H1 H2 hk2
     go_wp2
     go_roundw
     case rel => exact ⟨2 * i + 1, by congr 1, by omega, R⟩
     case measure => simp [intOf]; omega
    ·have hb' : lessA Ln.ops x1 y = false := by simpa using hb
     have R : Hid (∃ A', HpAt w1 bl v (A' ++ B) ∧ A'.Perm A ∧ HeapF (lessA Ln.ops) (lnAt d A') A.length ∧ Kept (HpF bl v) w w1) :=
      down_off HX.out.1 hneg HX.out.2.1 HX.out.2.2.1 HX.out.2.2.2.1 HX.out.2.2.2.2.1 hb' HS.out (hk0.trans' hk1) H1
     clear m2 hb H1
     go_wp2
     go_ret
     exact ⟨_, rfl, R.out⟩
  ·have hj2i : ¬ 2 * (i : Int) + 1 + 1 < (n : Int) := by omega
   have HS : Hid (∀ c z, A'[c]? = some z → 0 < c → (c - 1) / 2 = i → lessA Ln.ops z x1 = false) := fun c z hz c0 hq => by
    have hcl := (List.getElem?_eq_some_iff.1 hz).1
    have h6 := HX.out.2.2.2.2.2
    have : c = 2 * i + 1 := by omega
    subst this
    rw [HX.out.2.2.2.2.1] at hz; cases hz; exact lessA_irr _
   obtain ⟨w0, hw0⟩ : ∃ x, x = wr := ⟨_, rfl⟩
   have hk0 : Kept (fun _ => False) wr w0 := by rw [hw0]; exact Kept.refl _ _
   have H0 := H'
   rw [← hw0] at m1 H0
   clear R hp hD' hk' hy hx1 hlen H hD H'
   have hl := hp_less H0 (2 * i + 1) i x1 y (at_left HX.out.2.2.2.2.1) (at_left HX.out.2.2.2.1)
   rw [show ((2 * i + 1 : Nat) : Int) = 2 * (i : Int) + 1 from by omega] at hl
   subst w0
   go_wp2_with fail
   refine hl.mono ?_
   rintro e1 w1 ⟨rfl, hk1⟩
   have H1 := H0.quiet hk1
   have m2 := meth_swap bl v w1 H1.cell
   clear hl m1 H0
   by_cases hb : lessA Ln.ops x1 y = true
   ·have hs1 := hp_swap H1 i (2 * i + 1) y x1 (at_left HX.out.2.2.2.1) (at_left HX.out.2.2.2.2.1)
    rw [show ((2 * i + 1 : Nat) : Int) = 2 * (i : Int) + 1 from by omega] at hs1
    go_wp2_with fail
    refine hs1.mono ?_
    rintro e2 w2 ⟨rfl, H2, hk2⟩
    have R : Hid (∃ A', HpAt w2 bl v (A' ++ B) ∧ A'.Perm A ∧ DownI (lessA Ln.ops) (lnAt d A') A.length (2 * i + 1) ∧ Kept (HpF bl v) w w2) :=
     down_on HX.out.1 HX.out.2.1 HX.out.2.2.1 HX.out.2.2.2.1 HX.out.2.2.2.2.1 (by omega) (by omega) hb HS.out (hk0.trans' hk1) H2 hk2
    clear hs1 m2 H1 H2 hk2
    go_wp2
    go_roundw
    case rel => exact ⟨2 * i + 1, by congr 1, by omega, R⟩
    case measure => simp [intOf]; omega
   ·have hb' : lessA Ln.ops x1 y = false := by simpa using hb
    have R : Hid (∃ A', HpAt w1 bl v (A' ++ B) ∧ A'.Perm A ∧ HeapF (lessA Ln.ops) (lnAt d A') A.length ∧ Kept (HpF bl v) w w1) :=
     down_off HX.out.1 hneg HX.out.2.1 HX.out.2.2.1 HX.out.2.2.2.1 HX.out.2.2.2.2.1 hb' HS.out (hk0.trans' hk1) H1
    clear m2 hb H1
    go_wp2
    go_ret
    exact ⟨_, rfl, R.out⟩
def HeapL (d : Ln) (hs : List Ln) : Prop := HeapF (lessA Ln.ops) (lnAt d hs) hs.length
def PushPost (bl : Nat) (v : Value) (d : Ln) (hs : List Ln) (w : World) (e' : Ending) (w' : World) : Prop := e' = .returned (.tuple #[]) ∧ ∃ v' hs', HpAt w' bl v' hs' ∧ hs'.Perm hs ∧ HeapL d hs' ∧ Kept (HpF bl v) w w' ∧ ∀ b, HpF bl v' b → HpF bl v b ∨ w.heap.size ≤ b
theorem HpAt.neg {w : World} {bl : Nat} {v : Value} {hs : List Ln} (H : HpAt w bl v hs) : NegL hs := fun x hx => Ln.ops_ne (H.lines x hx)
set_option maxHeartbeats 1000000 in
set_option maxRecDepth 100000 in
theorem hp_Push_any {w : World} {bl : Nat} {v : Value} {hs : List Ln} {x : Ln} (d : Ln) (H : HpAt w bl v hs) (hn : hs.length ≤ 1000) (hx : LnAt w x) (hh : HeapL d hs) :
  Calls Tryz.prog 70 #[.iface 138 (.pointer (some ⟨bl, 0, none⟩)), .iface 139 x.val] w (PushPost bl v d (hs ++ [x]) w) := by
 have hp := hp_push H (by omega) hx
 have m1 := meth_push (.pointer (some ⟨bl, 0, none⟩)) w
 go_enter Tryz.func70, Tryz.ntmps70
 go_wp2_with fail
 refine hp.mono ?_
 rintro e1 w1 ⟨rfl, v1, H1, hk1, hF1⟩
 clear hp m1
 have hfin : ∀ w' hs', HpAt w' bl v1 hs' → Kept (HpF bl v1) w1 w' → hs'.Perm (hs ++ [x]) → HeapL d hs' → ∃ v' hs', HpAt w' bl v' hs' ∧ hs'.Perm (hs ++ [x]) ∧ HeapL d hs' ∧ Kept (HpF bl v) w w' ∧ ∀ b, HpF bl v' b → HpF bl v b ∨ w.heap.size ≤ b := fun w' hs' h1 h2 h3 h4 => by
  refine ⟨v1, hs', h1, h3, h4, hk1.trans h2 (fun i hi hf => ?_), hF1⟩
  rcases hF1 i hf with h5 | h5
  ·exact h5
  ·omega
 obtain ⟨n, hnn⟩ : ∃ n, hs.length = n := ⟨_, rfl⟩
 have hl1 : (hs ++ [x]).length = n + 1 := by simp [hnn]
 obtain ⟨a1, c1, hv1, _, _⟩ := own_slice H1.row
 rw [hl1] at hv1
 subst hv1
 have m2 := meth_len bl (.slice a1 (n + 1) c1) w1 H1.cell
 have hlen := lLen_any a1 (n + 1) c1 w1
 have e1 : ((n + 1 : Nat) : Int) = (n : Int) + 1 := by omega
 rw [e1] at hlen
 have hn3 : (n : Int) ≤ 1000 := by omega
 have hu := hp_up_any H1 d H1.neg n (by omega) (by omega) (by
  rw [hl1]
  refine heap_pushed (a := lnAt d hs) (by rw [← hnn]; exact hh) (fun i hi => ?_)
  unfold lnAt
  rw [List.getD_eq_getElem?_getD, List.getD_eq_getElem?_getD, List.getElem?_append_left (by omega)])
 have HF : Hid _ := hfin
 have HL1 : Hid ((hs ++ [x]).length = n + 1) := hl1
 clear hfin hl1 H hh hx H1 hk1 hF1 hnn
 go_wp2_with fail
 refine hlen.mono ?_
 rintro e2 w2 ⟨rfl, hw2⟩
 rw [hw2]
 clear hw2
 go_wp2_with fail
 refine hu.mono ?_
 rintro e3 w3 ⟨rfl, hs', h1, h2, h3, h4⟩
 have R : Hid _ := HF.out w3 hs' h1 h4 h2 (by unfold HeapL; rw [h2.length_eq]; exact h3)
 clear hu
 go_wp2
 go_end0
 exact ⟨rfl, R.out⟩
def FixPost (bl : Nat) (v : Value) (d : Ln) (hs : List Ln) (w : World) (e' : Ending) (w' : World) : Prop := e' = .returned (.tuple #[]) ∧ ∃ hs', HpAt w' bl v hs' ∧ hs'.Perm hs ∧ HeapL d hs' ∧ Kept (HpF bl v) w w'
set_option maxHeartbeats 1000000 in
set_option maxRecDepth 100000 in
theorem hp_Fix_any {w : World} {bl : Nat} {v : Value} {hs : List Ln} (d : Ln) (H : HpAt w bl v hs) (hn : hs.length ≤ 60000) (hD : DownI (lessA Ln.ops) (lnAt d hs) hs.length 0) :
  Calls Tryz.prog 95 #[.iface 138 (.pointer (some ⟨bl, 0, none⟩)), .int .i64 0] w (FixPost bl v d hs w) := by
 obtain ⟨a1, c1, hv1, _, _⟩ := own_slice H.row
 subst hv1
 have m1 := meth_len bl _ w H.cell
 have hlen := lLen_any a1 hs.length c1 w
 have hd := hp_down_any (A := hs) (B := []) (by rw [List.append_nil]; exact H) d H.neg (by omega) hD
 have hu := hp_up0 (.iface 138 (.pointer (some ⟨bl, 0, none⟩)))
 clear H hD
 go_enter Tryz.func95, Tryz.ntmps95
 go_wp2_with fail
 refine hlen.mono ?_
 rintro e1 w1 ⟨rfl, hw1⟩
 rw [hw1]
 clear hw1 m1 hlen
 go_wp2_with fail
 refine hd.mono ?_
 rintro e2 w2 ⟨r, rfl, A', h1, h2, h3, h4⟩
 rw [List.append_nil] at h1
 have R : Hid (∃ hs', HpAt w2 bl (.slice a1 hs.length c1) hs' ∧ hs'.Perm hs ∧ HeapL d hs' ∧ Kept (HpF bl (.slice a1 hs.length c1)) w w2) := ⟨A', h1, h2, by unfold HeapL; rw [h2.length_eq]; exact h3, h4⟩
 clear hd h1 h2 h3 h4
 cases r with
 | true =>
  go_wp2
  go_end0
  exact ⟨rfl, R.out⟩
 | false =>
  go_wp2_with fail
  refine (hu w2).mono ?_
  rintro e3 w3 ⟨rfl, hw3⟩
  rw [hw3]
  clear hw3 hu
  go_wp2
  go_end0
  exact ⟨rfl, R.out⟩
def PopPost (bl : Nat) (v : Value) (d : Ln) (t : List Ln) (w : World) (e' : Ending) (w' : World) : Prop := (∃ u, e' = .returned u) ∧ ∃ v' hs', HpAt w' bl v' hs' ∧ hs'.Perm t ∧ HeapL d hs' ∧ Kept (HpF bl v) w w' ∧ ∀ b, HpF bl v' b → HpF bl v b
set_option maxHeartbeats 1000000 in
set_option maxRecDepth 100000 in
theorem hp_Pop_any {w : World} {bl : Nat} {v : Value} {h : Ln} {t : List Ln} (d : Ln) (H : HpAt w bl v (h :: t)) (hn : t.length ≤ 1000) (hh : HeapL d (h :: t)) :
  Calls Tryz.prog 94 #[.iface 138 (.pointer (some ⟨bl, 0, none⟩))] w (PopPost bl v d t w) := by
 obtain ⟨a1, c1, hv1, _, _⟩ := own_slice H.row
 have hv2 : v = .slice a1 (t.length + 1) c1 := hv1
 clear hv1
 subst hv2
 have m1 := meth_len bl _ w H.cell
 have hlen := lLen_any a1 (t.length + 1) c1 w
 obtain ⟨l, hl⟩ : ∃ l, (h :: t)[t.length]? = some l := ⟨_, List.getElem?_eq_getElem (by simp)⟩
 have hs := hp_swap H 0 t.length h l rfl hl
 have m2 := meth_swap bl _ w H.cell
 obtain ⟨A, hA1, hA2, hA3⟩ : ∃ A : List Ln, swapL (h :: t) 0 t.length h l = A ++ [h] ∧ A.Perm t ∧ A.length = t.length := by
  match t, hl with
  | [], hl => exact ⟨[], by simp at hl; subst hl; rfl, List.Perm.refl _, rfl⟩
  | x :: t', hl =>
   rcases List.eq_nil_or_concat (x :: t') with h0 | ⟨B, y, hB⟩
   ·cases h0
   ·rw [List.concat_eq_append] at hB
    have hy : l = y := by
     rw [hB] at hl
     simp at hl
     exact hl.symm
    subst hy
    refine ⟨l :: B, ?_, ?_, ?_⟩
    ·rw [hB]
     simp [swapL]
    ·rw [hB]
     exact (List.perm_append_singleton l B).symm
    ·rw [hB]; simp
 have hDA : DownI (lessA Ln.ops) (lnAt d A) A.length 0 := by
  refine heap_fixed (a := lnAt d (h :: t)) (fun i i0 hi => hh i i0 (by rw [List.length_cons, ← hA3]; omega)) (fun i i0 hi => ?_)
  have e1 : lnAt d A i = lnAt d (A ++ [h]) i := by
   unfold lnAt
   rw [List.getD_eq_getElem?_getD, List.getD_eq_getElem?_getD, List.getElem?_append_left hi]
  rw [e1, ← hA1, swapL_at d (h :: t) 0 t.length h l rfl hl]
  exact sw_o _ _ _ _ (by omega) (by omega)
 have HNA : Hid (NegL A ∧ DownI (lessA Ln.ops) (lnAt d A) A.length 0) := ⟨(fun x hx => H.neg x (List.mem_cons_of_mem _ (hA2.mem_iff.1 hx))), hDA⟩
 rw [hA1] at hs
 clear hA1 H hDA hh
 obtain ⟨n, hnn⟩ : ∃ n, t.length = n := ⟨_, rfl⟩
 rw [hnn] at m1 hlen hs m2 hA3 hn ⊢
 have hn2 : (n : Int) ≤ 1000 := by omega
 have e1 : ((n + 1 : Nat) : Int) = (n : Int) + 1 := by omega
 rw [e1] at hlen
 clear hl hnn
 go_enter Tryz.func94, Tryz.ntmps94
 go_wp2_with fail
 refine hlen.mono ?_
 rintro e1 w1 ⟨rfl, hw1⟩
 rw [hw1]
 clear hw1 m1 hlen
 go_wp2_with fail
 refine hs.mono ?_
 rintro e2 w2 ⟨rfl, H2, hk2⟩
 have hd := hp_down_any H2 d HNA.out.1 (by omega) HNA.out.2
 rw [hA3] at hd
 clear hs m2 H2
 go_wp2_with fail
 refine hd.mono ?_
 rintro e3 w3 ⟨r, rfl, A', h1, h2, h3, h4⟩
 have hp := hp_pop h1 (by rw [h2.length_eq, hA3]; omega)
 have m3 := meth_pop (.pointer (some ⟨bl, 0, none⟩)) w3
 clear hd h1
 go_wp2_with fail
 refine hp.mono ?_
 rintro e4 w4 ⟨rfl, v', g1, g2, g3⟩
 have R : Hid (∃ v' hs', HpAt w4 bl v' hs' ∧ hs'.Perm t ∧ HeapL d hs' ∧ Kept (HpF bl (.slice a1 (n + 1) c1)) w w4 ∧ ∀ b, HpF bl v' b → HpF bl (.slice a1 (n + 1) c1) b) := ⟨v', A', g1, h2.trans hA2, (by unfold HeapL; rw [h2.length_eq]; exact h3), (hk2.trans h4 (fun _ _ h => h)).trans g2 (fun _ _ h => h), g3⟩
 clear hp m3 g1 g2 g3 h2 h3 h4
 go_wp2
 go_ret
 exact ⟨⟨_, rfl⟩, R.out⟩
theorem HeapL.ok {d : Ln} {hs : List Ln} (h : HeapL d hs) (hn : NegL hs) : HeapOk Ln.ops hs := by
 cases hs with
 | nil => trivial
 | cons x t =>
  intro l hl
  obtain ⟨i, hi, rfl⟩ := List.getElem_of_mem hl
  have := heap_top (hn.neg d) lessA_irr h (i + 1) (by simp; omega)
  have e1 : lnAt d (x :: t) (i + 1) = t[i] := lnAt_some (by simp)
  have e0 : lnAt d (x :: t) 0 = x := rfl
  rw [e1, e0] at this
  exact this
def TakePost (bl : Nat) (v : Value) (d h : Ln) (t : List Ln) (w : World) (e' : Ending) (w' : World) : Prop := e' = .returned (.tuple #[]) ∧ ∃ v' hs', HpAt w' bl v' hs' ∧ ((h.ms.length = 1 ∧ hs'.Perm t) ∨ (2 ≤ h.ms.length ∧ hs'.Perm (h.next :: t))) ∧ HeapL d hs' ∧ Kept (HpF bl v) w w' ∧ (∀ b, HpF bl v' b → HpF bl v b)
set_option maxHeartbeats 1000000 in
set_option maxRecDepth 100000 in
theorem takeFirst_all {w : World} {bl : Nat} {v : Value} {h : Ln} {t : List Ln} (d : Ln) (H : HpAt w bl v (h :: t)) (hn : t.length ≤ 1000) (hh : HeapL d (h :: t)) (hcap : h.cap ≤ 9223372036854775807) :
  Calls Tryz.prog 71 #[.pointer (some ⟨bl, 0, none⟩)] w (TakePost bl v d h t w) := by
 obtain ⟨g, cap, cur, hv, hg, hgl, hc⟩ := H.block (by simp)
 have hv2 : v = .slice (some ⟨g, 0, none⟩) (t.length + 1) cap := hv
 clear hv
 subst hv2
 have c0 := H.cell
 have z0 := lt_of_heap H.box
 have ch : w.cell? ⟨g, 0, none⟩ = some (.slice (some ⟨h.g, h.off, none⟩) h.ms.length h.cap) := by rw [Lib.cell_of_heap hg]; exact hc 0 h rfl
 have zg := lt_of_heap hg
 have hL := H.lines h (by simp)
 have hroom := hL.room
 have hlt : (0 : Int) < ((t.length + 1 : Nat) : Int) := by omega
 have hlt2 : (0 : Int) < (t.length : Int) + 1 := by omega
 by_cases h1 : h.ms.length = 1
 ·have hp := hp_Pop_any d H hn hh
  rw [h1] at ch
  clear H hL hg hc hh
  go_enter Tryz.func71, Tryz.ntmps71
  go_wp2_with fail
  refine hp.mono ?_
  rintro e1 w1 ⟨⟨u, rfl⟩, v', hs', a1, a2, a3, a4, a5⟩
  have R : Hid (∃ v' hs', HpAt w1 bl v' hs' ∧ ((h.ms.length = 1 ∧ hs'.Perm t) ∨ (2 ≤ h.ms.length ∧ hs'.Perm (h.next :: t))) ∧ HeapL d hs' ∧ Kept (HpF bl (.slice (some ⟨g, 0, none⟩) (t.length + 1) cap)) w w1 ∧ (∀ b, HpF bl v' b → HpF bl (.slice (some ⟨g, 0, none⟩) (t.length + 1) cap) b)) := ⟨v', hs', a1, Or.inl ⟨h1, a2⟩, a3, a4, a5⟩
  clear hp a1 a2 a3 a4 a5
  go_wp2
  refine bodyPost_ret (results_none (by rfl) _ _ _) rfl ?_
  exact ⟨rfl, R.out⟩
 ·have h2 : 2 ≤ h.ms.length := by
   have := List.length_pos_iff.2 hL.ne
   omega
  have Hd := H.quiet ((Kept.refl _ w).drew)
  obtain ⟨H1, k1⟩ := hp_set Hd 0 (by simp) h.next ((hL.next h2).keep ((Kept.refl (fun _ => False) w).drew) (fun h => h))
  have hnv : h.next.val = .slice (some ⟨h.g, h.off + 8, none⟩) (h.ms.length - 1) (h.cap - 1) := by
   show Value.slice _ h.ms.tail.length _ = _
   rw [List.length_tail]
   rfl
  rw [hnv] at H1 k1
  have hf := hp_Fix_any d H1 (by simp; omega) (by
   refine heap_fixed (a := lnAt d (h :: t)) (fun i i0 hi => hh i i0 (by simpa using hi)) (fun i i0 hi => ?_)
   cases i with
   | zero => omega
   | succ i => rfl)
  have fz : ∀ j, w.frozen? ⟨g, j, none⟩ = false := Lib.frozen_of_heap hg
  have H2 : Hid (2 ≤ h.ms.length) := h2
  have HK : Hid (Kept (HpF bl (.slice (some ⟨g, 0, none⟩) (t.length + 1) cap)) w (w.drew.setCell ⟨g, 0, none⟩ (.slice (some ⟨h.g, h.off + 8, none⟩) (h.ms.length - 1) (h.cap - 1)))) := (((Kept.refl (fun _ => False) w).drew).mono (fun _ _ h => h.elim)).trans k1 (fun b _ e => by subst e; exact Or.inr rfl)
  obtain ⟨m, hm⟩ : ∃ m, h.ms.length = m := ⟨_, rfl⟩
  have HM : Hid (h.ms.length = m) := hm
  rw [hm] at ch h2 h1 hroom hf HK
  have h2i : (1 : Int) ≤ (m : Int) := by omega
  have h1i : ¬ (m : Int) = 1 := by omega
  have h1b : ((m : Int) == 1) = false := by rw [beq_eq_false_iff_ne]; exact h1i
  have hmc : (m : Int) ≤ (h.cap : Int) := by omega
  have hc1 : ¬ h.cap = 1 := by omega
  have hc2 : ¬ h.cap - 1 = 0 := by omega
  clear H hL hg hc Hd H1 k1 hnv hm hh
  go_enter Tryz.func71, Tryz.ntmps71
  go_wp2_with fail
  refine wp_region_three 9 2 (by kernel_rfl) (by kernel_rfl) ?_
  simp only [List.take_succ_cons, List.take_zero, List.drop_succ_cons, List.drop_zero]
  change wpStill _ _ (World.drew _) _ _ _
  repeat still_step
  refine wpStill_nil ?_
  go_wp2_with fail
  change wpStill _ _ _ _ _ _
  refine wpStill_nil ?_
  go_wp2_with fail
  refine hf.mono ?_
  rintro e1 w1 ⟨rfl, hs', a1, a2, a3, a4⟩
  have R : Hid (∃ v' hs', HpAt w1 bl v' hs' ∧ ((h.ms.length = 1 ∧ hs'.Perm t) ∨ (2 ≤ h.ms.length ∧ hs'.Perm (h.next :: t))) ∧ HeapL d hs' ∧ Kept (HpF bl (.slice (some ⟨g, 0, none⟩) (t.length + 1) cap)) w w1 ∧ (∀ b, HpF bl v' b → HpF bl (.slice (some ⟨g, 0, none⟩) (t.length + 1) cap) b)) := ⟨_, hs', a1, Or.inr ⟨H2.out, a2⟩, a3, HK.out.trans a4 (fun _ _ h => h), fun b hb => hb⟩
  clear hf a1 a2 a3 a4
  go_wp2
  all_goals first
   | (go_ret; exact ⟨rfl, R.out⟩)
   | (go_end0; exact ⟨rfl, R.out⟩)
end Go.Proofs.YtgfafbanahiigaaGreat
