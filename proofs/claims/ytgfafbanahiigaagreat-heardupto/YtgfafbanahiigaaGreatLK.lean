import Derived.Test.YtgfafbanahiigaaGreatRK
import Derived.Test.YtgfafbanahiigaaGreatLI
set_option linter.unusedVariables false
set_option linter.unusedSimpArgs false
namespace Go.Proofs.YtgfafbanahiigaaGreat
open Go.RowKit Go.Chorus
def NewStrs (n : Nat) (w : World) (e' : Ending) (w' : World) : Prop := ∃ a' c' ls, e' = .returned (.slice a' ls.length c') ∧ ls.length ≤ c' ∧ c' ≤ maxLen ∧ StrsG w' a' ls ∧ ls.length ≤ n ∧ Kept (fun _ => False) w w' ∧ ∀ ad, a' = some ad → w.heap.size ≤ ad.block
theorem newStrs_of {n : Nat} {w w' : World} {v : Value} {ls : List (List UInt8)} (h : w'.ownsRow 0 9 1 v ls.length (strsV ls)) (hn : ls.length ≤ n) (hk : Kept (fun _ => False) w w') (hb : ∀ b, v.ownBlock = some b → w.heap.size ≤ b) : NewStrs n w (.returned v) w' := by
 obtain ⟨a, cp, rfl, hnc, hc, f⟩ := own_cells h
 refine ⟨a, cp, ls, rfl, hnc, hc, fun i l hi => ?_, hn, hk, fun ad had => ?_⟩
 ·have hil := (List.getElem?_eq_some_iff.1 hi).1
  obtain ⟨g, x1, hg⟩ := f.resolve_left (by omega)
  refine ⟨g, 0, x1, ?_⟩
  rw [Nat.zero_add]
  refine hg i _ ?_
  show (ls.map _)[i]? = _
  rw [List.getElem?_map, hi]; rfl
 ·rcases h.2 with ⟨e1, _⟩ | ⟨g, cap, cur, e1, _⟩
  ·injection e1 with x1; rw [x1] at had; cases had
  ·injection e1 with x1
   rw [had] at x1
   injection x1 with x1
   subst x1
   exact hb g (by rw [had]; rfl)
theorem pks_at {M B0 : Nat} {w : World} {bw : Nat} {S : WS} (h : WSt M B0 w bw S) : ∃ a c, S.vs 1 = .slice a S.pks.length c ∧ ∀ (i : Nat) (l : List UInt8), S.pks[i]? = some l → ∃ g, a = some ⟨g, 0, none⟩ ∧ w.cell? ⟨g, i, none⟩ = some (.string ⟨l.toArray⟩) := by
 have hrow : w.ownsRow 0 9 1 (S.vs 1) S.pks.length (strsV S.pks) := h.core.rows 1 (by decide)
 obtain ⟨a, cp, e, _, _, f⟩ := own_cells hrow
 refine ⟨a, cp, e, fun i l hi => ?_⟩
 have hil := (List.getElem?_eq_some_iff.1 hi).1
 obtain ⟨g, x1, hg⟩ := f.resolve_left (by omega)
 refine ⟨g, x1, hg i _ ?_⟩
 show (S.pks.map _)[i]? = _
 rw [List.getElem?_map, hi]; rfl
set_option maxHeartbeats 2000000 in
set_option maxRecDepth 100000 in
theorem some_any {M B0 : Nat} {w : World} {bw : Nat} {S : WS} (h : WSt M B0 w bw S) (hpk : S.pks.length ≤ 1099511627776) (a : Option Addr) (c : Nat) (ns : List Int) (hn : ns.length ≤ 4294967000) (hI : IntsG w a ns) (hb : ∀ n ∈ ns, -9223372036854775808 ≤ n ∧ n ≤ 9223372036854775807) :
  Calls Tryz.prog 21 #[.pointer (some ⟨bw, 0, none⟩), .slice a ns.length c] w (NewStrs ns.length w) := by
 obtain ⟨c0, c1, c2, c3, c4, c5⟩ := h.core.cells
 have bz := lt_of_heap h.core.block
 obtain ⟨pa, pc, ep, hpa⟩ := pks_at h
 rw [ep] at c1
 clear ep h c0 c2 c3 c4 c5
 have hni : (ns.length : Int) ≤ 4294967000 := by omega
 go_enter Tryz.func21, Tryz.ntmps21
 go_wp2
 go_loopw [5, 6] (fun lv i wr => ∃ k : Nat, k ≤ ns.length ∧ i = .int .i64 k ∧ ∃ la lc, lv = .slice la k lc ∧ Hid (∃ ls, ls.length = k ∧ wr.ownsRow 0 9 1 lv k (strsV ls) ∧ Kept (fun _ => False) w wr ∧ ∀ b, lv.ownBlock = some b → w.heap.size ≤ b)) (fun _ i _ => ns.length - (intOf i).toNat)
 case atStart => exact ⟨0, Nat.zero_le _, rfl, none, 0, rfl, [], rfl, World.ownsRow_nil _ _ _ _, Kept.refl _ _, fun b hb => by simp [Value.ownBlock] at hb⟩
 case round =>
  obtain ⟨k, hk, rfl, la, lc, rfl, HX⟩ := hrel
  obtain ⟨ls, hls, R1, R2, R3⟩ := HX.out
  have d1 := R2.cell' c1 (fun h => h)
  have zw : bw < wr.heap.size := World.block_lt_of_cell? wr _ d1
  by_cases hlt : k < ns.length
  ·have hki : (k : Int) < (ns.length : Int) := by omega
   by_cases hp0 : 0 < S.pks.length
   ·have hp0i : (0 : Int) < (S.pks.length : Int) := by omega
    obtain ⟨x, hx⟩ : ∃ x, ns[k]? = some x := ⟨_, List.getElem?_eq_getElem hlt⟩
    obtain ⟨gn, off, rfl, hgn⟩ := hI k x hx
    have hxb := hb x (List.mem_of_getElem? hx)
    obtain ⟨ix, hie⟩ : ∃ ix : Nat, pickN x (S.pks.length : Int) = (ix : Int) := ⟨(pickN x (S.pks.length : Int)).toNat, by have := pickN_lo x (S.pks.length : Int) (by omega); omega⟩
    have hil : ix < S.pks.length := by have := pickN_hi x (S.pks.length : Int) (by omega); omega
    obtain ⟨pl, hpl⟩ : ∃ pl, S.pks[ix]? = some pl := ⟨_, List.getElem?_eq_getElem hil⟩
    obtain ⟨gp, rfl, hgp⟩ := hpa ix pl hpl
    have hpick := lpick_any x (S.pks.length : Int)
    have hpli : (S.pks.length : Int) ≤ 9223372036854775807 := by omega
    have hili : (ix : Int) < (S.pks.length : Int) := by omega
    have HPK : Hid (pickN x (S.pks.length : Int) = (ix : Int)) := hie
    have dn := R2.cell' hgn (fun h => h)
    have dg := R2.cell' hgp (fun h => h)
    have hrow5 := R1
    have hSl : ∀ b, (Value.slice la k lc).ownBlock = some b → w.heap.size ≤ b := R3
    have hSw : ¬ (Value.slice la k lc).ownBlock = some bw := fun h => by have := hSl _ h; omega
    have hSn : ¬ (Value.slice la k lc).ownBlock = some gn := fun h => by have := hSl _ h; have h2 : gn < w.heap.size := World.block_lt_of_cell? w _ hgn; omega
    have hSg : ¬ (Value.slice la k lc).ownBlock = some gp := fun h => by have := hSl _ h; have h2 : gp < w.heap.size := World.block_lt_of_cell? w _ hgp; omega
    have hSz : ∀ b, (Value.slice la k lc).ownBlock = some b → b < wr.heap.size := fun b hb => (R1.lt b hb).2
    have HR2 : Hid (Kept (fun _ => False) w wr) := R2
    have HLS : Hid (ls.length = k) := hls
    clear hx hpl hie hls R2 R3 hgn hgp
    go_upto_region 5 with fail
    refine wp_region_tailB (by kernel_rfl) 19 _ rfl (by kernel_rfl) (fun b => (Value.slice la k lc).ownBlock = some b) 18 (fun iz v wx => match iz with
     | 0 => v = .slice la k lc
     | 1 => v = .pointer (some ⟨bw, 0, none⟩)
     | 2 => v = .pointer (some ⟨bw, 0, none⟩)
     | 3 => v = .pointer (some ⟨bw, 1, none⟩)
     | 4 => v = .slice (some ⟨gp, 0, none⟩) S.pks.length pc
     | 5 => v = .slice (some ⟨gn, off, none⟩) ns.length c
     | 6 => v = .int .i64 (k : Nat)
     | 7 => v = .pointer (some ⟨gn, off + k, none⟩)
     | 8 => v = .int .i64 x
     | 9 => v = .pointer (some ⟨bw, 0, none⟩)
     | 10 => v = .pointer (some ⟨bw, 0, none⟩)
     | 11 => v = .pointer (some ⟨bw, 1, none⟩)
     | 12 => v = .slice (some ⟨gp, 0, none⟩) S.pks.length pc
     | 13 => v = .int .i64 (S.pks.length : Nat)
     | 14 => v = .int .i64 (ix : Nat)
     | 15 => v = .pointer (some ⟨gp, ix, none⟩)
     | 16 => v = .string ⟨pl.toArray⟩
     | 17 => ∃ vb, v = .slice (some ⟨vb, 0, none⟩) 1 1 ∧ wx.heap[vb]? = some (.cells #[.string ⟨pl.toArray⟩] 9 (0, 0)) ∧ wr.heap.size ≤ vb
     | 18 => wx.ownsRow 0 9 1 v (k + 1) (strsV (ls ++ [pl])) ∧ (∀ b, v.ownBlock = some b → (Value.slice la k lc).ownBlock = some b ∨ wr.heap.size ≤ b)
     | _ => True) ?_ ?_ ?_ ?_ ?_
    ·intro i v wa wb hv hk
     split at hv
     case h_18 =>
      obtain ⟨vb, h1, h2, h3⟩ := hv
      exact ⟨vb, h1, hk.heap h2 (fun h => h), h3⟩
     case h_19 =>
      exact ⟨ownsRow_kept hv.1 hk (fun _ _ h => h), hv.2⟩
     all_goals exact hv
    ·intro i v wa wb hi hv hk
     split at hv
     case h_18 =>
      obtain ⟨vb, h1, h2, h3⟩ := hv
      exact ⟨vb, h1, hk.heap h2 (fun h => by have := hSz _ h; omega), h3⟩
     case h_19 =>
      exact absurd rfl hi
     all_goals exact hv
    ·intro i o' hin his hi a' wa hk' up
     have hkk : Kept (fun b => (Value.slice la k lc).ownBlock = some b) wr wa := (((Kept.refl (fun _ => False) wr).drew).mono (fun _ _ h => h.elim)).trans' hk'
     have u1 := hkk.cell' d1 hSw
     have un := hkk.cell' dn hSn
     have ug := hkk.cell' dg hSg
     have hold : ∀ d : Nat, (d = 0 ∨ d = 1 ∨ d = 6) → a'.tmps[d]? = _ := fun d hd => up.old d (by
      intro j oj hj hjd
      exfalso
      rcases j with _ | _ | _ | _ | _ | _ | _ | _ | _ | _ | _ | _ | _ | _ | _ | _ | _ | _ | _ | _ | j <;> simp at hj <;> subst hj <;> simp at hjd <;> omega)
     have o0 := hold 0 (by decide)
     have o1 := hold 1 (by decide)
     have o6 := hold 6 (by decide)
     simp at o0 o1 o6
     clear hold
     rcases i with _ | _ | _ | _ | _ | _ | _ | _ | _ | _ | _ | _ | _ | _ | _ | _ | _ | _ | _ | i
     all_goals simp only [List.getElem?_cons_zero, List.getElem?_cons_succ, List.getElem?_nil, Option.some.injEq, reduceCtorEq] at hi
     all_goals try subst hi
     ·have o5 : a'.tmps[5]? = _ := up.old 5 (by
       intro j oj hj hjd
       rcases j with _ | _ | _ | _ | _ | _ | _ | _ | _ | _ | _ | _ | _ | _ | _ | _ | _ | _ | _ | _ | j <;> simp at hj <;> subst hj <;> simp at hjd
       right
       exact ⟨⟨0, .phase⟩, by simp, rfl, rfl⟩)
      simp at o5
      simp [Oper.wp, go_sem, Act.eval, o5]
      exact ⟨_, rfl, rfl, Kept.refl _ _⟩
     ·simp [Oper.wp, go_sem, Act.eval, o0]
      exact ⟨_, rfl, rfl, Kept.refl _ _⟩
     ·obtain ⟨_, s1, rfl⟩ := up.d 1 22 rfl rfl
      simp [Oper.wp, go_sem, Act.eval, s1]
      exact ⟨_, rfl, rfl, Kept.refl _ _⟩
     ·obtain ⟨_, s2, rfl⟩ := up.d 2 23 rfl rfl
      simp [Oper.wp, go_sem, Act.eval, s2]
      exact ⟨_, rfl, rfl, Kept.refl _ _⟩
     ·obtain ⟨_, s3, rfl⟩ := up.d 3 24 rfl rfl
      simp [Oper.wp, go_sem, Act.eval, s3, u1]
      exact ⟨_, rfl, rfl, Kept.refl _ _⟩
     ·simp [Oper.wp, go_sem, Act.eval, o1]
      exact ⟨_, rfl, rfl, Kept.refl _ _⟩
     ·simp [Oper.wp, go_sem, Act.eval, o6]
      exact ⟨_, rfl, rfl, Kept.refl _ _⟩
     ·obtain ⟨_, s5, rfl⟩ := up.d 5 26 rfl rfl
      obtain ⟨_, s6, rfl⟩ := up.d 6 27 rfl rfl
      simp [Oper.wp, go_sem, Act.eval, s5, s6, hki, hlt]
      exact ⟨_, rfl, rfl, Kept.refl _ _⟩
     ·obtain ⟨_, s7, rfl⟩ := up.d 7 28 rfl rfl
      simp [Oper.wp, go_sem, Act.eval, s7, un]
      exact ⟨_, rfl, rfl, Kept.refl _ _⟩
     ·simp [Oper.wp, go_sem, Act.eval, o0]
      exact ⟨_, rfl, rfl, Kept.refl _ _⟩
     ·obtain ⟨_, s9, rfl⟩ := up.d 9 30 rfl rfl
      simp [Oper.wp, go_sem, Act.eval, s9]
      exact ⟨_, rfl, rfl, Kept.refl _ _⟩
     ·obtain ⟨_, s10, rfl⟩ := up.d 10 31 rfl rfl
      simp [Oper.wp, go_sem, Act.eval, s10]
      exact ⟨_, rfl, rfl, Kept.refl _ _⟩
     ·obtain ⟨_, s11, rfl⟩ := up.d 11 32 rfl rfl
      simp [Oper.wp, go_sem, Act.eval, s11, u1]
      exact ⟨_, rfl, rfl, Kept.refl _ _⟩
     ·obtain ⟨_, s12, rfl⟩ := up.d 12 33 rfl rfl
      simp [Oper.wp, go_sem, Act.eval, s12]
      exact ⟨_, rfl, rfl, Kept.refl _ _⟩
     ·obtain ⟨_, s8, rfl⟩ := up.d 8 29 rfl rfl
      obtain ⟨_, s13, rfl⟩ := up.d 13 34 rfl rfl
      simp [Oper.wp, go_sem, Act.eval, s8, s13]
      refine (hpick wa hp0i hpli hxb.1 hxb.2).mono ?_
      rintro e' w' ⟨rfl, rfl⟩
      exact ⟨_, rfl, by rw [HPK.out], Kept.refl _ _⟩
     ·obtain ⟨_, s4, rfl⟩ := up.d 4 25 rfl rfl
      obtain ⟨_, s14, rfl⟩ := up.d 14 35 rfl rfl
      simp [Oper.wp, go_sem, Act.eval, s4, s14, hili, hil]
      exact ⟨_, rfl, rfl, Kept.refl _ _⟩
     ·obtain ⟨_, s15, rfl⟩ := up.d 15 36 rfl rfl
      simp [Oper.wp, go_sem, Act.eval, s15, ug]
      exact ⟨_, rfl, rfl, Kept.refl _ _⟩
     ·obtain ⟨_, s16, rfl⟩ := up.d 16 37 rfl rfl
      simp [Oper.wp, go_sem, Act.eval, s16]
      exact ⟨_, rfl, ⟨_, rfl, heap_alloc_new wa _, hkk.size⟩, (Kept.refl _ _).alloc _⟩
     ·exact absurd rfl his
     ·omega
    ·intro o' _ ho a' wa hk' up
     have hkk : Kept (fun b => (Value.slice la k lc).ownBlock = some b) wr wa := (((Kept.refl (fun _ => False) wr).drew).mono (fun _ _ h => h.elim)).trans' (hk'.mono (fun _ _ h => h.elim))
     have u1 := hkk.cell' d1 hSw
     have un := hkk.cell' dn hSn
     have ug := hkk.cell' dg hSg
     simp only [List.getElem?_cons_zero, List.getElem?_cons_succ, List.getElem?_nil, Option.some.injEq, reduceCtorEq] at ho
     subst ho
     obtain ⟨_, s0, rfl⟩ := up.d 0 21 rfl rfl
     obtain ⟨v17, s17, hv17⟩ := up.d 17 38 rfl rfl
     obtain ⟨vb, hv17e, hvb, hvz⟩ := hv17
     subst hv17e
     have hkq : Kept (fun _ => False) wr wa := ((Kept.refl _ wr).drew).trans' hk'
     obtain ⟨i0, hi0, hz0, hzs, hzb⟩ := info_parts info_str
     have hsrc := src_new wa vb 9 27 Tryz.underlying27 [.string ⟨pl.toArray⟩] hvb (by intro v hv; simp at hv; subst hv; rfl)
     obtain ⟨v', w', hrun, hown', hkk2, hnn⟩ := append_strong Tryz.prog wa 27 27 9 i0 _ 1 16 Tryz.underlying27 hi0 hz0 hzs hzb rfl (by decide) _ _ _ (ownsRow_kept hrow5 hkq (fun _ _ h => h)) _ 1 _ hsrc (by decide) (by unfold maxLen; omega) (by omega)
     refine Lib.wp_append_run wa _ _ _ _ rfl (.slice la k lc) (.slice (some ⟨vb, 0, none⟩) 1 1) (by simp [Act.eval, s0]) (by simp [Act.eval, s17]) v' w' (hrun _) ?_
     refine ⟨v', rfl, ⟨?_, fun b hb2 => ?_⟩, hkk2⟩
     ·show w'.ownsRow 0 9 1 v' (k + 1) ((ls ++ [pl]).map _)
      rw [List.map_append]; exact hown'
     ·rcases hnn b hb2 with h1 | h1
      ·exact Or.inl h1
      ·exact Or.inr (Nat.le_trans hkq.size h1)
    ·intro vals wz hk hvv
     obtain ⟨h18, h18b⟩ := hvv 18 (by decide)
     obtain ⟨v', hv'⟩ : ∃ v', vals 18 = v' := ⟨_, rfl⟩
     rw [hv'] at h18 h18b
     obtain ⟨na, nc, rfl, _, _⟩ := own_slice h18
     have hkz : Kept (fun b => (Value.slice la k lc).ownBlock = some b) wr wz := (((Kept.refl (fun _ => False) wr).drew).mono (fun _ _ h => h.elim)).trans' hk
     have HE : Hid (wz.ownsRow 0 9 1 (.slice na (k + 1) nc) (k + 1) (strsV (ls ++ [pl])) ∧ Kept (fun b => (Value.slice la k lc).ownBlock = some b) wr wz ∧ ∀ b, (Value.slice na (k + 1) nc).ownBlock = some b → (Value.slice la k lc).ownBlock = some b ∨ wr.heap.size ≤ b) := ⟨h18, hkz, h18b⟩
     clear hvv hk hkz h18 h18b hrow5 d1 dn dg
     simp only [List.take_succ_cons, List.take_zero, List.drop_succ_cons, List.drop_zero, putAll, Act.put, hv']
     simp only [Nat.reduceAdd, Nat.zero_add, List.setIfInBounds_toArray, List.set_cons_succ, List.set_cons_zero]
     have HW : Hid (∃ ls, ls.length = k + 1 ∧ wz.ownsRow 0 9 1 (.slice na (k + 1) nc) (k + 1) (strsV ls) ∧ Kept (fun _ => False) w wz ∧ ∀ b, (Value.slice na (k + 1) nc).ownBlock = some b → w.heap.size ≤ b) := by
      refine ⟨ls ++ [pl], by rw [List.length_append, HLS.out]; rfl, HE.out.1, HR2.out.trans HE.out.2.1 (fun b hb hs => by have := hSl b hs; omega), fun b hb => ?_⟩
      rcases HE.out.2.2 b hb with h1 | h1
      ·exact hSl b h1
      ·exact Nat.le_trans HR2.out.size h1
     go_wp2_with fail
     go_roundw
     case rel => exact ⟨k + 1, by omega, by go_num, na, nc, rfl, HW.out⟩
     case measure => simp [intOf]; omega
   ·have hp0i : ¬ (0 : Int) < (S.pks.length : Int) := by omega
    clear hI hpa hb
    go_wp2_with fail
    go_ret
    obtain ⟨ls, h1, h2, h3, h4⟩ := HX.out
    subst h1
    exact newStrs_of h2 (by omega) h3 h4
  ·have hki : ¬ (k : Int) < (ns.length : Int) := by omega
   clear hI hpa hb
   go_wp2_with fail
   go_ret
   obtain ⟨ls, h1, h2, h3, h4⟩ := HX.out
   subst h1
   exact newStrs_of h2 (by omega) h3 h4
theorem some_ok : SomeOk := fun M B0 w bw S h hpk a c ns hn hI hb => some_any h hpk a c ns hn hI hb
def BytesW (w : World) (g : Nat) (l : List UInt8) : Prop := ∃ cur f1 f2, w.heap[g]? = some (.cells cur 5 (f1, f2)) ∧ l.length ≤ f1 ∧ ∀ (j : Nat) (b : UInt8), l[j]? = some b → cur[j]? = some (.int .u8 (b.toNat : Int))
theorem BytesW.quiet {w w' : World} {g : Nat} {l : List UInt8} (h : BytesW w g l) (k : Kept (fun _ => False) w w') : BytesW w' g l := by
 obtain ⟨cur, f1, f2, h1, h2, h3⟩ := h
 exact ⟨cur, f1, f2, k.heap h1 (fun h => h), h2, h3⟩
theorem BytesW.cell {w : World} {g : Nat} {l : List UInt8} (h : BytesW w g l) (j : Nat) (hj : j < l.length) : ∃ b : UInt8, w.cell? ⟨g, j, none⟩ = some (.int .u8 (b.toNat : Int)) := by
 obtain ⟨cur, f1, f2, h1, h2, h3⟩ := h
 exact ⟨l[j], by rw [Lib.cell_of_heap h1]; exact h3 j _ (List.getElem?_eq_getElem hj)⟩
theorem BytesW.free {w : World} {g : Nat} {l : List UInt8} (h : BytesW w g l) (j : Nat) (hj : j < l.length) : w.frozen? ⟨g, j, none⟩ = false ∧ g < w.heap.size := by
 obtain ⟨cur, f1, f2, h1, h2, h3⟩ := h
 refine ⟨?_, lt_of_heap h1⟩
 simp only [World.frozen?, h1]
 simp
 omega
theorem BytesW.set {w : World} {g : Nat} {l : List UInt8} (h : BytesW w g l) (j : Nat) (y : UInt8) : BytesW (w.setCell ⟨g, j, none⟩ (.int .u8 (y.toNat : Int))) g (l.set j y) := by
 obtain ⟨cur, f1, f2, h1, h2, h3⟩ := h
 refine ⟨_, f1, f2, heap_set_same h1 j _, by rw [List.length_set]; exact h2, fun i b hi => ?_⟩
 rw [List.getElem?_set] at hi
 by_cases hji : j = i
 ·subst hji
  rw [if_pos rfl] at hi
  split at hi
  ·rename_i hlt
   cases hi
   have hs : j < cur.size := (Array.getElem?_eq_some_iff.1 (h3 j _ (List.getElem?_eq_getElem hlt))).1
   simp [hs]
  ·cases hi
 ·rw [if_neg hji] at hi
  rw [Array.getElem?_setIfInBounds_ne hji]
  exact h3 i b hi
theorem BytesW.str {w : World} {g c : Nat} {l : List UInt8} (h : BytesW w g l) (W : World) (hW : ∀ p, W.cell? p = w.cell? p) : (convert 89 9 (.slice (some ⟨g, 0, none⟩) l.length c)).run Tryz.prog W = .ok (.string ⟨l.toArray⟩) W := by
 obtain ⟨cur, f1, f2, h1, h2, h3⟩ := h
 exact run_convert_bytes_back W 89 9 5 ⟨g, 0, none⟩ c l Tryz.underlying89 Tryz.underlying5 Tryz.underlying9 (fun j hj => by
  rw [Addr.add_lit, Nat.zero_add, hW, Lib.cell_of_heap h1]
  exact h3 j _ (List.getElem?_eq_getElem hj))
theorem bytesW_new (w : World) (S : ByteArray) : BytesW (Lib.bytesWorld w 5 S) w.heap.size S.data.toList := by
 have hsz : (Lib.bytesCells w 5 S).size = grownCap w S.size 0 5 := by
  have h1 := grownCap_ge w S.size 0 5
  simp [Lib.bytesCells]
  omega
 have h1 := grownCap_ge w S.size 0 5
 refine ⟨_, _, _, Lib.bytesWorld_at_new w 5 S, by rw [hsz, Array.length_toList]; exact h1, fun j b hj => ?_⟩
 have hjl : j < S.size := by have := (List.getElem?_eq_some_iff.1 hj).1; rw [Array.length_toList] at this; exact this
 have h2 := Lib.bytesWorld_cell w 5 S j hjl
 rw [Lib.cell_of_heap (Lib.bytesWorld_at_new w 5 S), List.getD_eq_getElem?_getD, hj] at h2
 exact h2
theorem newStrs_one {w W : World} (l : List UInt8) (hk : Kept (fun _ => False) w W) : NewStrs 1 w (.returned (.slice (some ⟨W.heap.size, 0, none⟩) 1 1)) (W.alloc (.cells #[.string ⟨l.toArray⟩] 9)) := by
 refine ⟨_, 1, [l], rfl, Nat.le_refl _, by unfold maxLen; omega, fun i x hi => ?_, Nat.le_refl _, hk.alloc _, fun ad had => ?_⟩
 ·cases i with
  | zero =>
   cases hi
   exact ⟨W.heap.size, 0, rfl, by rw [Lib.cell_of_heap (heap_alloc_new W _)]; rfl⟩
  | succ i => simp at hi
 ·cases had
  exact hk.size
theorem u8_of {z : Int} (h1 : 0 ≤ z) (h2 : z < 256) : ∃ y : UInt8, z = (y.toNat : Int) := by
 refine ⟨UInt8.ofNat z.toNat, ?_⟩
 rw [UInt8.toNat_ofNat', Nat.mod_eq_of_lt (by omega)]
 omega
theorem xor_u8 (a b : Int) : 0 ≤ bits .xor .u8 a b ∧ bits .xor .u8 a b < 256 := by
 obtain ⟨r, hr⟩ : ∃ r : Int, bits .xor .u8 a b = IntKind.u8.wrap r := ⟨_, rfl⟩
 rw [hr, IntKind.wrap_u8]
 omega
theorem BytesW.setv {w : World} {g : Nat} {l : List UInt8} (h : BytesW w g l) (j : Nat) (z : Int) (h1 : 0 ≤ z) (h2 : z < 256) : BytesW (w.setCell ⟨g, j, none⟩ (.int .u8 z)) g (l.set j (UInt8.ofNat z.toNat)) := by
 have e : z = ((UInt8.ofNat z.toNat).toNat : Int) := by
  rw [UInt8.toNat_ofNat', Nat.mod_eq_of_lt (by omega)]
  omega
 have h3 := h.set j (UInt8.ofNat z.toNat)
 rw [← e] at h3
 exact h3
theorem u8_wrap (z : Int) : 0 ≤ IntKind.u8.wrap z ∧ IntKind.u8.wrap z < 256 := by rw [IntKind.wrap_u8]; omega
set_option maxHeartbeats 2000000 in
set_option maxRecDepth 100000 in
theorem bent_any {M B0 : Nat} {w : World} {bw : Nat} {S : WS} (h : WSt M B0 w bw S) (hpk : S.pks.length ≤ 1099511627776) (A B : Int) (r : Bool) (hA1 : -9223372036854775808 ≤ A) (hA2 : A ≤ 9223372036854775807) (hB1 : -9223372036854775808 ≤ B) (hB2 : B ≤ 9223372036854775807) :
  Calls Tryz.prog 22 #[.pointer (some ⟨bw, 0, none⟩), .int .i64 A, .int .i64 B, .bool r] w (NewStrs 1 w) := by
 obtain ⟨c0, c1, c2, c3, c4, c5⟩ := h.core.cells
 have bz := lt_of_heap h.core.block
 obtain ⟨pa, pc, ep, hpa⟩ := pks_at h
 rw [ep] at c1
 have hpacks := h.packs
 clear ep h c0 c2 c3 c4 c5
 by_cases hp0 : 0 < S.pks.length
 case neg =>
  have hp0i : ((S.pks.length : Int) == 0) = true := by rw [beq_iff_eq]; omega
  clear hpa hpacks
  go_enter Tryz.func22, Tryz.ntmps22
  go_wp2
  go_ret
  exact ⟨none, 0, [], rfl, Nat.le_refl _, by unfold maxLen; omega, fun i x hi => by simp at hi, Nat.zero_le _, Kept.refl _ _, fun ad had => by cases had⟩
 have hp0b : ((S.pks.length : Int) == 0) = false := by rw [beq_eq_false_iff_ne]; omega
 have hp0i : (0 : Int) < (S.pks.length : Int) := by omega
 obtain ⟨ix, hie⟩ : ∃ ix : Nat, pickN A (S.pks.length : Int) = (ix : Int) := ⟨(pickN A (S.pks.length : Int)).toNat, by have := pickN_lo A (S.pks.length : Int) (by omega); omega⟩
 have hil : ix < S.pks.length := by have := pickN_hi A (S.pks.length : Int) (by omega); omega
 obtain ⟨pl, hpl⟩ : ∃ pl, S.pks[ix]? = some pl := ⟨_, List.getElem?_eq_getElem hil⟩
 obtain ⟨gp, rfl, hgp⟩ := hpa ix pl hpl
 obtain ⟨hL1, hL2⟩ := hpacks pl (List.mem_of_getElem? hpl)
 have hpick := lpick_any A (S.pks.length : Int)
 have hpli : (S.pks.length : Int) ≤ 9223372036854775807 := by omega
 have hili : (ix : Int) < (S.pks.length : Int) := by omega
 have HPK : Hid (pickN A (S.pks.length : Int) = (ix : Int)) := hie
 clear hpl hpa hpacks hie
 go_enter Tryz.func22, Tryz.ntmps22
 go_upto_region 3 with fail
 go_cut [9] (fun v wd => v = .string ⟨pl.toArray⟩ ∧ Kept (fun _ => False) w wd)
 case first =>
  refine wp_region_byB (by kernel_rfl) _ rfl (by kernel_rfl) (fun iz v wx => match iz with
   | 0 => v = .pointer (some ⟨bw, 0, none⟩)
   | 1 => v = .pointer (some ⟨bw, 0, none⟩)
   | 2 => v = .pointer (some ⟨bw, 1, none⟩)
   | 3 => v = .slice (some ⟨gp, 0, none⟩) S.pks.length pc
   | 4 => v = .int .i64 A
   | 5 => v = .pointer (some ⟨bw, 0, none⟩)
   | 6 => v = .pointer (some ⟨bw, 0, none⟩)
   | 7 => v = .pointer (some ⟨bw, 1, none⟩)
   | 8 => v = .slice (some ⟨gp, 0, none⟩) S.pks.length pc
   | 9 => v = .int .i64 (S.pks.length : Nat)
   | 10 => v = .int .i64 (ix : Nat)
   | 11 => v = .pointer (some ⟨gp, ix, none⟩)
   | 12 => v = .string ⟨pl.toArray⟩
   | 13 => v = .string ⟨pl.toArray⟩
   | _ => True) ?_ ?_ ?_
  ·intro i v wa wb hv hk
   split at hv
   all_goals exact hv
  ·intro i o' hi a' wa up
   have hk' := up.kept
   have hkk : Kept (fun _ => False) w wa := ((Kept.refl _ w).drew).trans' hk'
   have u1 := hkk.cell' c1 (fun h => h)
   have ug := hkk.cell' hgp (fun h => h)
   have hold : ∀ d : Nat, (d = 0 ∨ d = 1) → a'.tmps[d]? = _ := fun d hd => up.old d (by
    intro j oj hj hjd
    exfalso
    rcases j with _ | _ | _ | _ | _ | _ | _ | _ | _ | _ | _ | _ | _ | _ | j <;> simp at hj <;> subst hj <;> simp at hjd <;> omega)
   have o0 := hold 0 (by decide)
   have o1 := hold 1 (by decide)
   simp at o0 o1
   clear hold
   rcases i with _ | _ | _ | _ | _ | _ | _ | _ | _ | _ | _ | _ | _ | _ | i
   all_goals simp only [List.getElem?_cons_zero, List.getElem?_cons_succ, List.getElem?_nil, Option.some.injEq, reduceCtorEq] at hi
   all_goals try subst hi
   ·simp [Oper.wp, go_sem, Act.eval, o0]
    exact ⟨_, rfl, rfl, Kept.refl _ _⟩
   ·obtain ⟨_, s0, rfl⟩ := up.d 0 21 rfl rfl
    simp [Oper.wp, go_sem, Act.eval, s0]
    exact ⟨_, rfl, rfl, Kept.refl _ _⟩
   ·obtain ⟨_, s1, rfl⟩ := up.d 1 22 rfl rfl
    simp [Oper.wp, go_sem, Act.eval, s1]
    exact ⟨_, rfl, rfl, Kept.refl _ _⟩
   ·obtain ⟨_, s2, rfl⟩ := up.d 2 23 rfl rfl
    simp [Oper.wp, go_sem, Act.eval, s2, u1]
    exact ⟨_, rfl, rfl, Kept.refl _ _⟩
   ·simp [Oper.wp, go_sem, Act.eval, o1]
    exact ⟨_, rfl, rfl, Kept.refl _ _⟩
   ·simp [Oper.wp, go_sem, Act.eval, o0]
    exact ⟨_, rfl, rfl, Kept.refl _ _⟩
   ·obtain ⟨_, s5, rfl⟩ := up.d 5 26 rfl rfl
    simp [Oper.wp, go_sem, Act.eval, s5]
    exact ⟨_, rfl, rfl, Kept.refl _ _⟩
   ·obtain ⟨_, s6, rfl⟩ := up.d 6 27 rfl rfl
    simp [Oper.wp, go_sem, Act.eval, s6]
    exact ⟨_, rfl, rfl, Kept.refl _ _⟩
   ·obtain ⟨_, s7, rfl⟩ := up.d 7 28 rfl rfl
    simp [Oper.wp, go_sem, Act.eval, s7, u1]
    exact ⟨_, rfl, rfl, Kept.refl _ _⟩
   ·obtain ⟨_, s8, rfl⟩ := up.d 8 29 rfl rfl
    simp [Oper.wp, go_sem, Act.eval, s8]
    exact ⟨_, rfl, rfl, Kept.refl _ _⟩
   ·obtain ⟨_, s4, rfl⟩ := up.d 4 25 rfl rfl
    obtain ⟨_, s9, rfl⟩ := up.d 9 30 rfl rfl
    simp [Oper.wp, go_sem, Act.eval, s4, s9]
    refine (hpick wa hp0i hpli hA1 hA2).mono ?_
    rintro e' w' ⟨rfl, rfl⟩
    exact ⟨_, rfl, by rw [HPK.out], Kept.refl _ _⟩
   ·obtain ⟨_, s3, rfl⟩ := up.d 3 24 rfl rfl
    obtain ⟨_, s10, rfl⟩ := up.d 10 31 rfl rfl
    simp [Oper.wp, go_sem, Act.eval, s3, s10, hili, hil]
    exact ⟨_, rfl, rfl, Kept.refl _ _⟩
   ·obtain ⟨_, s11, rfl⟩ := up.d 11 32 rfl rfl
    simp [Oper.wp, go_sem, Act.eval, s11, ug]
    exact ⟨_, rfl, rfl, Kept.refl _ _⟩
   ·obtain ⟨_, s12, rfl⟩ := up.d 12 33 rfl rfl
    simp [Oper.wp, go_sem, Act.eval, s12]
    exact ⟨_, rfl, rfl, Kept.refl _ _⟩
  ·intro vals wz hk hvv
   have h13 : vals 13 = _ := hvv 13 (by decide)
   have hk0 : Kept (fun _ => False) w wz := ((Kept.refl _ w).drew).trans' hk
   clear hvv
   simp only [putAll, Act.put, h13]
   simp only [Nat.reduceAdd, Nat.zero_add, List.setIfInBounds_toArray, List.set_cons_succ, List.set_cons_zero]
   go_wp2_with fail
   go_meet
   exact ⟨rfl, hk0⟩
 case rest =>
 obtain ⟨w2, hw2⟩ : ∃ x, x = wc := ⟨_, rfl⟩
 subst hw2
 obtain ⟨rfl, k2⟩ := hcut
 obtain ⟨T, hT⟩ : ∃ T : ByteArray, (⟨pl.toArray⟩ : ByteArray) = T := ⟨_, rfl⟩
 have hTs : T.size = pl.length := by rw [← hT]; rfl
 have hTd : T.data.toList = pl := by rw [← hT]
 rw [hT]
 obtain ⟨L, hL⟩ : ∃ L, pl.length = L := ⟨_, rfl⟩
 rw [hL] at hTs hL1 hL2
 have hcv : ∀ W : World, (convert 9 89 (.string T)).run Tryz.prog W = .ok (.slice (some ⟨W.heap.size, 0, none⟩) L (grownCap W L 0 5)) (Lib.bytesWorld W 5 T) := fun W => by
  have := Lib.run_convert_string_bytes W 9 89 5 T Tryz.underlying9 Tryz.underlying89 Tryz.underlying5
  rw [hTs] at this; exact this
 have hL4 : (4 : Int) < (L : Int) := by omega
 have hL6 : (L : Int) ≤ 65536 := by omega
 obtain ⟨ii, hii⟩ : ∃ ii : Nat, pickN B ((L : Int) - 4) = ii := ⟨(pickN B ((L : Int) - 4)).toNat, by have := pickN_lo B ((L : Int) - 4) (by omega); omega⟩
 have hiL : ii + 4 < L := by have := pickN_hi B ((L : Int) - 4) (by omega); omega
 have hpb := lpick_any B ((L : Int) - 4) w2 (by omega) (by omega) hB1 hB2
 rw [hii] at hpb
 have HK2 : Hid (Kept (fun _ => False) w w2) := k2
 obtain ⟨W3, hW3⟩ : ∃ W3, W3 = Lib.bytesWorld w2 5 T := ⟨_, rfl⟩
 have HY3 : Hid (BytesW W3 w2.heap.size pl ∧ Kept (fun _ => False) w W3) := by
  refine ⟨?_, ?_⟩
  ·have := bytesW_new w2 T
   rw [hTd] at this
   rw [hW3]; exact this
  ·rw [hW3]; exact k2.trans' (kept_bytesWorld _ _ _)
 have HLE : Hid (pl.length = L) := hL
 clear hii hT hTd hL k2 c1 hgp hpick HPK hili hil hp0b hp0i hpli
 go_wp2_with fail
 refine hpb.mono ?_
 rintro e1 w1 ⟨rfl, hw1⟩
 subst w1
 clear hpb
 go_upto_region 6 with fail
 rw [← hW3]
 clear hW3 hcv
 obtain ⟨GC, hGC⟩ : ∃ GC, grownCap w2 L 0 5 = GC := ⟨_, rfl⟩
 rw [hGC]
 clear hGC
 obtain ⟨g, hg⟩ : ∃ g, g = w2.heap.size := ⟨_, rfl⟩
 rw [← hg] at HY3 ⊢
 have HG : Hid (w.heap.size ≤ g) := by show _ ≤ _; rw [hg]; exact HK2.out.size
 clear hg HK2
 obtain ⟨x, hx⟩ := HY3.out.1.cell ii (by rw [HLE.out]; omega)
 obtain ⟨hfz, hgz⟩ := HY3.out.1.free ii (by rw [HLE.out]; omega)
 have hxb : x.toNat < 256 := x.toNat_lt
 have hiLi : (ii : Int) < (L : Int) := by omega
 have hiLn : ii < L := by omega
 have hp7 := fun (c : Int) (W : World) (h1 : -9223372036854775808 ≤ c) (h2 : c ≤ 9223372036854775807) => lpick_any c 255 W (by decide) (by decide) h1 h2
 go_cut [53] (fun v wd => ∃ y : UInt8, BytesW wd g (pl.set ii y) ∧ Kept (fun _ => False) w wd)
 case first =>
  refine wp_region_tailB (by kernel_rfl) 13 _ rfl (by kernel_rfl) (fun _ => False) 12 (fun iz v wx => match iz with
   | 0 => v = .slice (some ⟨g, 0, none⟩) L GC
   | 1 => v = .int .i64 (ii : Nat)
   | 2 => v = .slice (some ⟨g, 0, none⟩) L GC
   | 3 => v = .int .i64 (ii : Nat)
   | 4 => v = .pointer (some ⟨g, ii, none⟩)
   | 5 => v = .int .u8 (x.toNat : Int)
   | 6 => v = .int .i64 A
   | 7 => ∃ q : Int, v = .int .i64 q ∧ -9223372036854775808 ≤ q ∧ q ≤ 9223372036854775807
   | 8 => ∃ m : Int, v = .int .i64 m ∧ 0 ≤ m ∧ m < 255
   | 9 => ∃ m : Int, v = .int .i64 m ∧ 0 ≤ m ∧ m < 256
   | 10 => ∃ m : Nat, v = .int .u8 (m : Int) ∧ m < 256
   | 11 => ∃ y : UInt8, v = .int .u8 (y.toNat : Int)
   | 12 => v = .pointer (some ⟨g, ii, none⟩)
   | _ => True) ?_ ?_ ?_ ?_ ?_
  ·intro i v wa wb hv hk
   split at hv
   all_goals exact hv
  ·intro i v wa wb hi hv hk
   split at hv
   case h_13 =>
    exact absurd rfl hi
   all_goals exact hv
  ·intro i o' hin his hi a' wa hk' up
   have hkk : Kept (fun _ => False) W3 wa := ((Kept.refl _ W3).drew).trans' hk'
   have ux := hkk.cell' hx (fun h => h)
   have hold : ∀ d : Nat, (d = 1 ∨ d = 10 ∨ d = 11) → a'.tmps[d]? = _ := fun d hd => up.old d (by
    intro j oj hj hjd
    exfalso
    rcases j with _ | _ | _ | _ | _ | _ | _ | _ | _ | _ | _ | _ | _ | _ | j <;> simp at hj <;> subst hj <;> simp at hjd <;> omega)
   have o1 := hold 1 (by decide)
   have o10 := hold 10 (by decide)
   have o11 := hold 11 (by decide)
   simp at o1 o10 o11
   clear hold
   rcases i with _ | _ | _ | _ | _ | _ | _ | _ | _ | _ | _ | _ | _ | i
   all_goals simp only [List.getElem?_cons_zero, List.getElem?_cons_succ, List.getElem?_nil, Option.some.injEq, reduceCtorEq] at hi
   all_goals try subst hi
   ·simp [Oper.wp, go_sem, Act.eval, o11]
    exact ⟨_, rfl, rfl, Kept.refl _ _⟩
   ·simp [Oper.wp, go_sem, Act.eval, o10]
    exact ⟨_, rfl, rfl, Kept.refl _ _⟩
   ·simp [Oper.wp, go_sem, Act.eval, o11]
    exact ⟨_, rfl, rfl, Kept.refl _ _⟩
   ·simp [Oper.wp, go_sem, Act.eval, o10]
    exact ⟨_, rfl, rfl, Kept.refl _ _⟩
   ·obtain ⟨_, s2, rfl⟩ := up.d 2 43 rfl rfl
    obtain ⟨_, s3, rfl⟩ := up.d 3 44 rfl rfl
    simp [Oper.wp, go_sem, Act.eval, s2, s3, hiLi, hiLn]
    exact ⟨_, rfl, rfl, Kept.refl _ _⟩
   ·obtain ⟨_, s4, rfl⟩ := up.d 4 45 rfl rfl
    simp [Oper.wp, go_sem, Act.eval, s4, ux]
    exact ⟨_, rfl, rfl, Kept.refl _ _⟩
   ·simp [Oper.wp, go_sem, Act.eval, o1]
    exact ⟨_, rfl, rfl, Kept.refl _ _⟩
   ·obtain ⟨_, s6, rfl⟩ := up.d 6 47 rfl rfl
    simp [Oper.wp, go_sem, Act.eval, s6]
    exact ⟨_, rfl, ⟨_, rfl, by rw [IntKind.wrap_i64]; omega, by rw [IntKind.wrap_i64]; omega⟩, Kept.refl _ _⟩
   ·obtain ⟨v7, s7, hv7⟩ := up.d 7 48 rfl rfl
    obtain ⟨q, hqe, hq1, hq2⟩ := hv7
    subst hqe
    simp [Oper.wp, go_sem, Act.eval, s7]
    refine (hp7 q wa hq1 hq2).mono ?_
    rintro e' w' ⟨rfl, rfl⟩
    exact ⟨_, rfl, ⟨_, rfl, pickN_lo q 255 (by decide), pickN_hi q 255 (by decide)⟩, Kept.refl _ _⟩
   ·obtain ⟨v8, s8, hv8⟩ := up.d 8 49 rfl rfl
    obtain ⟨q, hqe, hq1, hq2⟩ := hv8
    subst hqe
    have hwq : IntKind.i64.wrap (1 + q) = 1 + q := by rw [IntKind.wrap_i64]; omega
    simp [Oper.wp, go_sem, Act.eval, hwq, s8]
    exact ⟨_, rfl, ⟨_, rfl, by omega, by omega⟩, Kept.refl _ _⟩
   ·obtain ⟨v9, s9, hv9⟩ := up.d 9 50 rfl rfl
    obtain ⟨q, hqe, hq1, hq2⟩ := hv9
    subst hqe
    have hwq : IntKind.u8.wrap q = q := by rw [IntKind.wrap_u8]; omega
    simp [Oper.wp, go_sem, Act.eval, hwq, s9]
    exact ⟨_, rfl, ⟨q.toNat, by congr 1; omega, by omega⟩, Kept.refl _ _⟩
   ·obtain ⟨_, s5, rfl⟩ := up.d 5 46 rfl rfl
    obtain ⟨v10, s10, hv10⟩ := up.d 10 51 rfl rfl
    obtain ⟨q, hqe, hq1⟩ := hv10
    subst hqe
    simp [Oper.wp, go_sem, Act.eval, s5, s10]
    obtain ⟨y, hy⟩ := u8_of (xor_u8 (x.toNat : Int) (q : Int)).1 (xor_u8 (x.toNat : Int) (q : Int)).2
    exact ⟨_, rfl, ⟨y, by rw [hy]⟩, Kept.refl _ _⟩
   ·exact absurd rfl his
   ·omega
  ·intro o' _ ho a' wa hk' up
   have hkk : Kept (fun _ => False) W3 wa := ((Kept.refl _ W3).drew).trans' hk'
   have ux := hkk.cell' hx (fun h => h)
   simp only [List.getElem?_cons_zero, List.getElem?_cons_succ, List.getElem?_nil, Option.some.injEq, reduceCtorEq] at ho
   subst ho
   obtain ⟨_, s0, rfl⟩ := up.d 0 41 rfl rfl
   obtain ⟨_, s1, rfl⟩ := up.d 1 42 rfl rfl
   have hold : a'.tmps[11]? = _ := up.old 11 (by
    intro j oj hj hjd
    exfalso
    rcases j with _ | _ | _ | _ | _ | _ | _ | _ | _ | _ | _ | _ | _ | _ | j <;> simp at hj <;> subst hj <;> simp at hjd <;> omega)
   simp at hold
   simp [Oper.wp, go_sem, Act.eval, hiLi, hiLn, s0, s1]
   exact ⟨_, rfl, rfl, Kept.refl _ _⟩
  ·intro vals wz hk hvv
   obtain ⟨y, h11⟩ := hvv 11 (by decide)
   have h12 : vals 12 = _ := hvv 12 (by decide)
   have hkz : Kept (fun _ => False) W3 wz := ((Kept.refl _ W3).drew).trans' hk
   have ux := hkz.cell' hx (fun h => h)
   have BZ := HY3.out.1.quiet hkz
   obtain ⟨fz, gz⟩ := BZ.free ii (by rw [HLE.out]; omega)
   have HE : Hid (∃ y : UInt8, BytesW (wz.setCell ⟨g, ii, none⟩ (.int .u8 (y.toNat : Int))) g (pl.set ii y)) := ⟨y, BZ.set ii y⟩
   have HE2 : Hid (BytesW (wz.setCell ⟨g, ii, none⟩ (.int .u8 (y.toNat : Int))) g (pl.set ii y) ∧ Kept (fun _ => False) w (wz.setCell ⟨g, ii, none⟩ (.int .u8 (y.toNat : Int)))) := ⟨BZ.set ii y, (HY3.out.2.trans' hkz).setCell (p := ⟨g, ii, none⟩) (fun h => absurd h (by show ¬ g < _; have := HG.out; omega)) _⟩
   clear hvv hk hkz BZ HE
   simp only [List.take_succ_cons, List.take_zero, List.drop_succ_cons, List.drop_zero, putAll, Act.put, h11, h12]
   simp only [Nat.reduceAdd, Nat.zero_add, List.setIfInBounds_toArray, List.set_cons_succ, List.set_cons_zero]
   go_wp2_with fail
   go_meet
   exact ⟨y, HE2.out⟩
 case rest =>
 obtain ⟨w6, hw6⟩ : ∃ x, x = wc := ⟨_, rfl⟩
 subst hw6
 obtain ⟨y, Y1, Y2⟩ := hcut
 obtain ⟨pl6, hpl6⟩ : ∃ l, l = pl.set ii y := ⟨_, rfl⟩
 have hlen6 : pl6.length = L := by rw [hpl6, List.length_set]; exact HLE.out
 rw [← hpl6] at Y1
 have HY6 : Hid (BytesW w6 g pl6 ∧ pl6.length = L ∧ Kept (fun _ => False) w w6) := ⟨Y1, hlen6, Y2⟩
 clear Y1 Y2 hpl6 hlen6 HY3 HLE hx hxb hfz hgz hp7
 cases r with
 | false =>
  have hcs := BytesW.str (c := GC) HY6.out.1 w6 (fun _ => rfl)
  rw [HY6.out.2.1] at hcs
  go_wp2_with fail
  go_ret
  exact newStrs_one pl6 HY6.out.2.2
 | true =>
 have hgz6 := (HY6.out.1.free 0 (by rw [HY6.out.2.1]; omega)).2
 go_wp2_with fail
 go_loopw [12, 13] (fun nv i wr => ∃ (k : Nat) (z : Int), k ≤ L ∧ i = .int .i64 k ∧ nv = .int .u32 z ∧ 0 ≤ z ∧ z < 4294967296 ∧ wr = w6) (fun _ i _ => L - (intOf i).toNat)
 case atStart => exact ⟨0, 0, Nat.zero_le _, rfl, rfl, by decide, by decide, rfl⟩
 case round =>
  obtain ⟨k, z, hk, rfl, rfl, hz1, hz2, hwr⟩ := hrel
  subst wr
  by_cases hlt : (k : Int) < (L : Int) - 4
  ·obtain ⟨x, hx⟩ := HY6.out.1.cell k (by rw [HY6.out.2.1]; omega)
   have hxb : x.toNat < 256 := x.toNat_lt
   have hkL : (k : Int) < (L : Int) := by omega
   have hkLn : k < L := by omega
   go_wp2_with fail
   go_roundw
   case rel => exact ⟨k + 1, _, by omega, by go_num, rfl, by first | omega | (simp only [IntKind.wrap_u32]; omega), by first | omega | (simp only [IntKind.wrap_u32]; omega), by trivial⟩
   case measure => simp [intOf]; omega
  ·go_wp2_with fail
   go_loopw [14] (fun i wr => ∃ k : Nat, k ≤ 4 ∧ i = .int .i64 k ∧ Hid (∃ l, l.length = L ∧ BytesW wr g l ∧ Kept (fun _ => False) w wr)) (fun i _ => 4 - (intOf i).toNat)
   case atStart => exact ⟨0, Nat.zero_le _, rfl, pl6, HY6.out.2.1, HY6.out.1, HY6.out.2.2⟩
   case round =>
    obtain ⟨q, hq, rfl, HQ⟩ := hrel
    obtain ⟨l, hl1, hl2, hl3⟩ := HQ.out
    by_cases hq4 : q < 4
    ·have hq4i : (q : Int) < 4 := by omega
     obtain ⟨x, hx⟩ := hl2.cell (L - 1 - q) (by rw [hl1]; omega)
     obtain ⟨fz, gz⟩ := hl2.free (L - 1 - q) (by rw [hl1]; omega)
     have hi0 : (0 : Int) ≤ (L : Int) - 1 - (q : Int) := by omega
     have hi1 : (L : Int) - 1 - (q : Int) < (L : Int) := by omega
     have hi2 : ((L : Int) - 1 - (q : Int)).toNat = L - 1 - q := by omega
     have hi3 : ¬ (8 * (q : Int)) < 0 := by omega
     have HB : Hid (∀ z : Int, ∃ l', l'.length = L ∧ BytesW (wr.setCell ⟨g, L - 1 - q, none⟩ (.int .u8 (IntKind.u8.wrap z))) g l' ∧ Kept (fun _ => False) w (wr.setCell ⟨g, L - 1 - q, none⟩ (.int .u8 (IntKind.u8.wrap z)))) := fun z =>
      ⟨_, by rw [List.length_set]; exact hl1, hl2.setv (L - 1 - q) _ (u8_wrap z).1 (u8_wrap z).2, hl3.setCell (p := ⟨g, L - 1 - q, none⟩) (fun h => absurd h (by show ¬ g < _; have := HG.out; omega)) _⟩
     clear hl1 hl2 hl3
     go_wp2_with fail
     go_roundw
     case rel => exact ⟨q + 1, by omega, by go_num, HB.out _⟩
     case measure => simp [intOf]; omega
    ·have hq4i : ¬ (q : Int) < 4 := by omega
     have hcs := BytesW.str (c := GC) hl2 wr (fun _ => rfl)
     rw [hl1] at hcs
     have HK : Hid (Kept (fun _ => False) w wr) := hl3
     clear hl1 hl2 hl3
     go_wp2_with fail
     go_ret
     exact newStrs_one l HK.out
theorem bent_ok : BentOk := fun M B0 w bw S h hpk A B r h1 h2 h3 h4 => bent_any h hpk A B r h1 h2 h3 h4
end Go.Proofs.YtgfafbanahiigaaGreat
