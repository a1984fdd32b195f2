import Derived.Deep.CutBlock
import Derived.Test.YtgfafbanahiigaaGreatRK
import Derived.Test.YtgfafbanahiigaaGreatLH
set_option linter.unusedVariables false
set_option linter.unusedSimpArgs false
namespace Go.Proofs.YtgfafbanahiigaaGreat
open Go.RowKit Go.Chorus
def StrsG (w : World) (a : Option Addr) (ls : List (List UInt8)) : Prop := ∀ (i : Nat) (l : List UInt8), ls[i]? = some l → ∃ g off, a = some ⟨g, off, none⟩ ∧ w.cell? ⟨g, off + i, none⟩ = some (.string ⟨l.toArray⟩)
def IntsG (w : World) (a : Option Addr) (ns : List Int) : Prop := ∀ (i : Nat) (n : Int), ns[i]? = some n → ∃ g off, a = some ⟨g, off, none⟩ ∧ w.cell? ⟨g, off + i, none⟩ = some (.int .i64 n)
theorem StrsG.keep {S : Nat → Prop} {w w' : World} {a : Option Addr} {ls : List (List UInt8)} (h : StrsG w a ls) (k : Kept S w w') (hS : 0 < ls.length → ∀ ad, a = some ad → ¬ S ad.block) : StrsG w' a ls := fun i l hi => by
 obtain ⟨g, off, rfl, hc⟩ := h i l hi
 exact ⟨g, off, rfl, k.cell' hc (hS (Nat.lt_of_le_of_lt (Nat.zero_le _) (List.getElem?_eq_some_iff.1 hi).1) ⟨g, off, none⟩ rfl)⟩
theorem IntsG.keep {S : Nat → Prop} {w w' : World} {a : Option Addr} {ns : List Int} (h : IntsG w a ns) (k : Kept S w w') (hS : 0 < ns.length → ∀ ad, a = some ad → ¬ S ad.block) : IntsG w' a ns := fun i l hi => by
 obtain ⟨g, off, rfl, hc⟩ := h i l hi
 exact ⟨g, off, rfl, k.cell' hc (hS (Nat.lt_of_le_of_lt (Nat.zero_le _) (List.getElem?_eq_some_iff.1 hi).1) ⟨g, off, none⟩ rfl)⟩
def OffP (S : WS) (a : Option Addr) (n : Nat) : Prop := 0 < n → ∀ ad, a = some ad → ∀ q ∈ S.ps, ¬ (q.F ad.block ∨ q.G ad.block)
def TakesOk : Prop := ∀ (M B0 : Nat) (w : World) (bw : Nat) (S : WS) (i : Nat) (p : PP), WSt M B0 w bw S → B0 ≤ w.heap.size → S.ps[i]? = some p → ∀ (a : Option Addr) (c : Nat) (ls : List (List UInt8)), ls.length ≤ c → c ≤ maxLen → M + ls.length ≤ 4294967000 → StrsG w a ls → OffP S a ls.length →
 Calls Tryz.prog 20 #[.agg #[.pointer (some ⟨p.bx, 0, none⟩), .pointer (some ⟨p.by_, 0, none⟩)], .slice a ls.length c] w fun e' w' => e' = .returned (.bool true) ∧ Kept (fun b => B0 ≤ b) w w' ∧ ∃ ps', WSt (M + ls.length) B0 w' bw { S with ps := ps' } ∧ ps'.length = S.ps.length
def SomeOk : Prop := ∀ (M B0 : Nat) (w : World) (bw : Nat) (S : WS), WSt M B0 w bw S → S.pks.length ≤ 1099511627776 → ∀ (a : Option Addr) (c : Nat) (ns : List Int), ns.length ≤ 4294967000 → IntsG w a ns → (∀ n ∈ ns, -9223372036854775808 ≤ n ∧ n ≤ 9223372036854775807) →
 Calls Tryz.prog 21 #[.pointer (some ⟨bw, 0, none⟩), .slice a ns.length c] w fun e' w' => ∃ a' c' ls, e' = .returned (.slice a' ls.length c') ∧ ls.length ≤ c' ∧ c' ≤ maxLen ∧ StrsG w' a' ls ∧ ls.length ≤ ns.length ∧ Kept (fun _ => False) w w' ∧ ∀ ad, a' = some ad → w.heap.size ≤ ad.block
def BentOk : Prop := ∀ (M B0 : Nat) (w : World) (bw : Nat) (S : WS), WSt M B0 w bw S → S.pks.length ≤ 1099511627776 → ∀ (A B : Int) (r : Bool), -9223372036854775808 ≤ A → A ≤ 9223372036854775807 → -9223372036854775808 ≤ B → B ≤ 9223372036854775807 →
 Calls Tryz.prog 22 #[.pointer (some ⟨bw, 0, none⟩), .int .i64 A, .int .i64 B, .bool r] w fun e' w' => ∃ a' c' ls, e' = .returned (.slice a' ls.length c') ∧ ls.length ≤ c' ∧ c' ≤ maxLen ∧ StrsG w' a' ls ∧ ls.length ≤ 1 ∧ Kept (fun _ => False) w w' ∧ ∀ ad, a' = some ad → w.heap.size ≤ ad.block
def RestOk : Prop := ∀ (M B0 : Nat) (w : World) (bw : Nat) (S : WS) (i : Nat) (p : PP) (q c : Nat), WSt M B0 w bw S → WLen S q c → B0 ≤ w.heap.size → S.ps[i]? = some p → M ≤ 4294967 → q ≤ 4294967 → c ≤ 1099511627776 → ∀ (a : Option Addr) (cp : Nat) (ns : List Int), ns.length ≤ cp → cp ≤ maxLen → ns.length ≤ 4294967 → IntsG w a ns → (∀ n ∈ ns, -9223372036854775808 ≤ n ∧ n ≤ 9223372036854775807) → OffP S a ns.length →
 Calls Tryz.prog 23 #[.pointer (some ⟨bw, 0, none⟩), .agg #[.pointer (some ⟨p.bx, 0, none⟩), .pointer (some ⟨p.by_, 0, none⟩)], .slice a ns.length cp] w fun e' w' => e' = .returned (.bool true) ∧ Kept (fun b => B0 ≤ b) w w' ∧ ∃ S', WSt M B0 w' bw S' ∧ WLen S' (q + 1) (c + M)
def StepEnd (M B0 : Nat) (w w' : World) (bw : Nat) (q c d : Nat) : Prop := Kept (fun b => B0 ≤ b) w w' ∧ ∃ S', WSt (M + 1 + d) B0 w' bw S' ∧ WLen S' (q + 1) (c + M + 1)
theorem WLen.up {S : WS} {q c q' c' : Nat} (h : WLen S q c) (hq : q ≤ q') (hc : c ≤ c') : WLen S q' c' := ⟨Nat.le_trans h.ps hq, Nat.le_trans h.pks hc, h.nm, Nat.le_trans h.ns (Nat.mul_le_mul_left 4 hq), h.tm, Nat.le_trans h.ts (Nat.mul_le_mul_left 4 hq)⟩
theorem pairs_at {M B0 : Nat} {w : World} {bw : Nat} {S : WS} (h : WSt M B0 w bw S) {i : Nat} {p : PP} (hi : S.ps[i]? = some p) : ∃ g c, S.vs 0 = .slice (some ⟨g, 0, none⟩) S.ps.length c ∧ w.cell? ⟨g, i * 2, none⟩ = some (.pointer (some ⟨p.bx, 0, none⟩)) ∧ w.cell? ⟨g, i * 2 + 1, none⟩ = some (.pointer (some ⟨p.by_, 0, none⟩)) := by
 have hil := (List.getElem?_eq_some_iff.1 hi).1
 rcases (h.core.rows 0 (by decide)).2 with ⟨_, h0⟩ | ⟨g, cap, cur, e1, _, hg, _, _, _, htk⟩
 ·have h0 : S.ps.length = 0 := h0
  omega
 ·have key : ∀ j, j < 2 → w.cell? ⟨g, i * 2 + j, none⟩ = p.cells[j]? := fun j hj => by
   have h4 := ppCells_at S.ps i p hi j hj
   have htk' : cur.toList.take (S.ps.length * 2) = ppCells S.ps := htk
   rw [← htk', List.getElem?_take, if_pos (by omega)] at h4
   rw [Lib.cell_of_heap hg, ← Array.getElem?_toList]
   exact h4
  exact ⟨g, cap, e1, key 0 (by decide), key 1 (by decide)⟩
set_option maxHeartbeats 4000000 in
set_option maxRecDepth 100000 in
theorem step_rest (last : Int) (hT : 6 ≤ last → TakesOk ∧ SomeOk ∧ BentOk) (hRs : 9 ≤ last → RestOk) {M B0 : Nat} {w : World} {bw : Nat} {S : WS} {q c : Nat} (h : WSt M B0 w bw S) (hL : WLen S q c) (hB : B0 ≤ w.heap.size) (hq : q ≤ 4294967) (hc : c ≤ 1099511627776) (kind P A B : Int) (hk1 : kind ≠ 1) (hkl : kind ≤ last) (hP1 : -9223372036854775808 ≤ P) (hP2 : P ≤ 9223372036854775807) (hA1 : -9223372036854775808 ≤ A) (hA2 : A ≤ 9223372036854775807) (hB1 : -9223372036854775808 ≤ B) (hB2 : B ≤ 9223372036854775807)
  (la sa : Option Addr) (ns : List Int) (ls : List (List UInt8)) (lc sc : Nat) (hM : M + 1 + (ns.length + ls.length) ≤ 4294967) (hlc : ns.length ≤ lc ∧ lc ≤ maxLen) (hsc : ls.length ≤ sc ∧ sc ≤ maxLen) (hnsG : IntsG w la ns) (hlsG : StrsG w sa ls) (hns : ∀ n ∈ ns, -9223372036854775808 ≤ n ∧ n ≤ 9223372036854775807) (hla : 0 < ns.length → ∀ ad, la = some ad → ad.block < B0) (hsa : 0 < ls.length → ∀ ad, sa = some ad → ad.block < B0) :
  Calls Tryz.prog 7 #[.pointer (some ⟨bw, 0, none⟩), .agg #[.int .i64 kind, .int .i64 P, .int .i64 A, .int .i64 B, .slice la ns.length lc, .slice sa ls.length sc]] w fun e' w' => e' = .returned (.bool true) ∧ StepEnd M B0 w w' bw q c (ns.length + ls.length) := by
 obtain ⟨W, hWe⟩ : ∃ W, W = w.alloc (.cells #[.int .i64 kind, .int .i64 P, .int .i64 A, .int .i64 B, .slice la ns.length lc, .slice sa ls.length sc] 36) := ⟨_, rfl⟩
 have hW : Kept (fun _ => False) w W := by rw [hWe]; exact (Kept.refl _ w).alloc _
 have hb : W.heap[w.heap.size]? = some (.cells #[.int .i64 kind, .int .i64 P, .int .i64 A, .int .i64 B, .slice la ns.length lc, .slice sa ls.length sc] 36 (0, 0)) := by rw [hWe]; exact heap_alloc_new w _
 have hz := lt_of_heap hb
 have q0 : W.cell? ⟨w.heap.size, 0, none⟩ = some (.int .i64 kind) := by rw [Lib.cell_of_heap hb]; rfl
 have q1 : W.cell? ⟨w.heap.size, 1, none⟩ = some (.int .i64 P) := by rw [Lib.cell_of_heap hb]; rfl
 have hkb : (kind == 1) = false := by rw [beq_eq_false_iff_ne]; exact hk1
 have GW := h.quiet hW
 obtain ⟨a0, c0, e0, _, _⟩ := own_slice (GW.core.rows 0 (by decide))
 have e0 : S.vs 0 = .slice a0 S.ps.length c0 := e0
 have cc := GW.core.cells.1
 rw [e0] at cc
 have bz := lt_of_heap GW.core.block
 have HB : Hid (W.heap[w.heap.size]? = some (.cells #[.int .i64 kind, .int .i64 P, .int .i64 A, .int .i64 B, .slice la ns.length lc, .slice sa ls.length sc] 36 (0, 0))) := hb
 have HW : Hid (WSt M B0 W bw S ∧ Kept (fun _ => False) w W) := ⟨GW, hW⟩
 have HLN : Hid (WLen S q c) := hL
 have hmore : Hid (M ≤ M + 1 + (ns.length + ls.length)) := by show _ ≤ _; omega
 cases hps : S.ps with
 | nil =>
  have hp0 : S.ps.length = 0 := by rw [hps]; rfl
  rw [hp0] at cc
  have HE : Hid (StepEnd M B0 w W bw q c (ns.length + ls.length)) := ⟨hW.mono (fun _ _ h => h.elim), S, GW.more hmore.out, hL.up (Nat.le_succ _) (by omega)⟩
  clear hps hp0 e0 GW h hW hb hL HB HW HLN hT hRs hnsG hlsG hns hla hsa hk1
  go_enter Tryz.func7, Tryz.ntmps7
  go_upto_region 1 with fail
  rw [← hWe]
  clear hWe
  go_wp2
  go_ret
  exact ⟨rfl, HE.out⟩
 | cons pp pr =>
  have hpos : 0 < S.ps.length := by rw [hps]; simp
  have hpl := hL.ps
  clear hps
  obtain ⟨ix, hie⟩ : ∃ ix : Nat, pickN P (S.ps.length : Int) = (ix : Int) := ⟨(pickN P (S.ps.length : Int)).toNat, by have := pickN_lo P (S.ps.length : Int) (by omega); omega⟩
  have hil : ix < S.ps.length := by have := pickN_hi P (S.ps.length : Int) (by omega); omega
  obtain ⟨p, hi⟩ : ∃ p, S.ps[ix]? = some p := ⟨_, List.getElem?_eq_getElem hil⟩
  obtain ⟨g0, c0', e0', x0, x1⟩ := pairs_at GW hi
  have hac : a0 = some ⟨g0, 0, none⟩ := by
   rw [e0'] at e0
   injection e0 with e1 _ _
   exact e1.symm
  subst hac
  have hpk := lpick_any P (S.ps.length : Int)
  have hneb : ((S.ps.length : Int) == 0) = false := by rw [beq_eq_false_iff_ne]; omega
  have hposi : (0 : Int) < (S.ps.length : Int) := by omega
  have hpli : (S.ps.length : Int) ≤ 9223372036854775807 := by omega
  have hili : (ix : Int) < (S.ps.length : Int) := by omega
  have HI : Hid (S.ps[ix]? = some p) := hi
  have HPK : Hid (pickN P (S.ps.length : Int) = (ix : Int)) := hie
  obtain ⟨n0, hn0⟩ : ∃ n0, S.ps.length = n0 := ⟨_, rfl⟩
  rw [hn0] at cc hpk hneb hposi hpli hili HPK hil
  clear e0 e0' GW h hW hb hL hi hie hpl hk1 hpos hn0
  go_enter Tryz.func7, Tryz.ntmps7
  go_upto_region 1 with fail
  rw [← hWe]
  clear hWe
  go_upto_region 11 with fail
  go_cut [9] (fun v wd => ∃ b, v = .pointer (some ⟨b, 0, none⟩) ∧ wd.heap[b]? = some (.cells #[.pointer (some ⟨p.bx, 0, none⟩), .pointer (some ⟨p.by_, 0, none⟩)] 47 (0, 0)) ∧ W.heap.size ≤ b ∧ Kept (fun _ => False) W wd)
  case first =>
   refine wp_region_tailB (by kernel_rfl) 15 _ rfl (by kernel_rfl) (fun _ => False) 14 (fun iz v wx => match iz with
    | 0 => v = .pointer (some ⟨bw, 0, none⟩)
    | 1 => v = .pointer (some ⟨bw, 0, none⟩)
    | 2 => v = .pointer (some ⟨bw, 0, none⟩)
    | 3 => v = .slice (some ⟨g0, 0, none⟩) n0 c0
    | 4 => v = .pointer (some ⟨w.heap.size, 1, none⟩)
    | 5 => v = .int .i64 P
    | 6 => v = .pointer (some ⟨bw, 0, none⟩)
    | 7 => v = .pointer (some ⟨bw, 0, none⟩)
    | 8 => v = .pointer (some ⟨bw, 0, none⟩)
    | 9 => v = .slice (some ⟨g0, 0, none⟩) n0 c0
    | 10 => v = .int .i64 n0
    | 11 => v = .int .i64 ix
    | 12 => v = .pointer (some ⟨g0, ix * 2, none⟩)
    | 13 => v = .agg #[.pointer (some ⟨p.bx, 0, none⟩), .pointer (some ⟨p.by_, 0, none⟩)]
    | 14 => ∃ b, v = .pointer (some ⟨b, 0, none⟩) ∧ wx.heap[b]? = some (.cells #[.pointer none, .pointer none] 47 (0, 0)) ∧ W.heap.size ≤ b
    | _ => True) ?_ ?_ ?_ ?_ ?_
   ·intro i v wa wb hv hk
    split at hv
    case h_15 =>
     obtain ⟨b, h1, h2, h3⟩ := hv
     exact ⟨b, h1, hk.heap h2 (fun h => h), h3⟩
    all_goals exact hv
   ·intro i v wa wb hi hv hk
    split at hv
    case h_15 =>
     exact absurd rfl hi
    all_goals exact hv
   ·intro i o' hin his hi a' wa hk' up
    have hkk : Kept (fun _ => False) W wa := ((Kept.refl _ W).drew).trans' hk'
    have y0 := hkk.cell' cc (fun h => h)
    have y1 := hkk.cell' q1 (fun h => h)
    have z0 := hkk.cell' x0 (fun h => h)
    have z1 := hkk.cell' x1 (fun h => h)
    have hold : ∀ d : Nat, (d = 0 ∨ d = 3) → a'.tmps[d]? = _ := fun d hd => up.old d (by
     intro j oj hj hjd
     exfalso
     rcases j with _ | _ | _ | _ | _ | _ | _ | _ | _ | _ | _ | _ | _ | _ | _ | _ | j <;> simp at hj <;> subst hj <;> simp at hjd <;> omega)
    have o0 := hold 0 (by decide)
    have o3 := hold 3 (by decide)
    simp at o0 o3
    clear hold
    rcases i with _ | _ | _ | _ | _ | _ | _ | _ | _ | _ | _ | _ | _ | _ | _ | i
    all_goals simp only [List.getElem?_cons_zero, List.getElem?_cons_succ, List.getElem?_nil, Option.some.injEq, reduceCtorEq] at hi
    all_goals try subst hi
    ·simp [Oper.wp, go_sem, Act.eval, o0]
     exact ⟨_, rfl, rfl, Kept.refl _ _⟩
    ·obtain ⟨_, s0, rfl⟩ := up.d 0 66 rfl rfl
     simp [Oper.wp, go_sem, Act.eval, s0]
     exact ⟨_, rfl, rfl, Kept.refl _ _⟩
    ·obtain ⟨_, s1, rfl⟩ := up.d 1 67 rfl rfl
     simp [Oper.wp, go_sem, Act.eval, s1]
     exact ⟨_, rfl, rfl, Kept.refl _ _⟩
    ·obtain ⟨_, s2, rfl⟩ := up.d 2 68 rfl rfl
     simp [Oper.wp, go_sem, Act.eval, s2, y0]
     exact ⟨_, rfl, rfl, Kept.refl _ _⟩
    ·simp [Oper.wp, go_sem, Act.eval, o3]
     exact ⟨_, rfl, rfl, Kept.refl _ _⟩
    ·obtain ⟨_, s4, rfl⟩ := up.d 4 70 rfl rfl
     simp [Oper.wp, go_sem, Act.eval, s4, y1]
     exact ⟨_, rfl, rfl, Kept.refl _ _⟩
    ·simp [Oper.wp, go_sem, Act.eval, o0]
     exact ⟨_, rfl, rfl, Kept.refl _ _⟩
    ·obtain ⟨_, s6, rfl⟩ := up.d 6 72 rfl rfl
     simp [Oper.wp, go_sem, Act.eval, s6]
     exact ⟨_, rfl, rfl, Kept.refl _ _⟩
    ·obtain ⟨_, s7, rfl⟩ := up.d 7 73 rfl rfl
     simp [Oper.wp, go_sem, Act.eval, s7]
     exact ⟨_, rfl, rfl, Kept.refl _ _⟩
    ·obtain ⟨_, s8, rfl⟩ := up.d 8 74 rfl rfl
     simp [Oper.wp, go_sem, Act.eval, s8, y0]
     exact ⟨_, rfl, rfl, Kept.refl _ _⟩
    ·obtain ⟨_, s9, rfl⟩ := up.d 9 75 rfl rfl
     simp [Oper.wp, go_sem, Act.eval, s9]
     exact ⟨_, rfl, rfl, Kept.refl _ _⟩
    ·obtain ⟨_, s5, rfl⟩ := up.d 5 71 rfl rfl
     obtain ⟨_, s10, rfl⟩ := up.d 10 76 rfl rfl
     simp [Oper.wp, go_sem, Act.eval, s5, s10]
     refine (hpk wa hposi hpli hP1 hP2).mono ?_
     rintro e' w' ⟨rfl, rfl⟩
     exact ⟨_, rfl, by rw [HPK.out], Kept.refl _ _⟩
    ·obtain ⟨_, s3, rfl⟩ := up.d 3 69 rfl rfl
     obtain ⟨_, s11, rfl⟩ := up.d 11 77 rfl rfl
     simp [Oper.wp, go_sem, Act.eval, s3, s11, hili, hil]
     exact ⟨_, rfl, rfl, Kept.refl _ _⟩
    ·obtain ⟨_, s12, rfl⟩ := up.d 12 78 rfl rfl
     simp [Oper.wp, go_sem, Act.eval, s12, z0, z1]
     exact ⟨_, rfl, rfl, Kept.refl _ _⟩
    ·exact absurd rfl his
    ·omega
   ·intro o' _ ho a' wa hk' up
    have hkk : Kept (fun _ => False) W wa := ((Kept.refl _ W).drew).trans' hk'
    have y0 := hkk.cell' cc (fun h => h)
    have y1 := hkk.cell' q1 (fun h => h)
    have z0 := hkk.cell' x0 (fun h => h)
    have z1 := hkk.cell' x1 (fun h => h)
    simp only [List.getElem?_cons_zero, List.getElem?_cons_succ, List.getElem?_nil, Option.some.injEq, reduceCtorEq] at ho
    subst ho
    simp [Oper.wp, go_sem, Act.eval]
    exact ⟨_, rfl, ⟨_, rfl, heap_alloc_new wa _, hkk.size⟩, (Kept.refl _ _).alloc _⟩
   ·intro vals wz hk hvv
    have h13 : vals 13 = _ := hvv 13 (by decide)
    obtain ⟨b, h14, hbb, hbW⟩ := hvv 14 (by decide)
    have hkz : Kept (fun _ => False) W wz := ((Kept.refl _ W).drew).trans' hk
    have zb := lt_of_heap hbb
    have zf : ∀ j, wz.frozen? ⟨b, j, none⟩ = false := Lib.frozen_of_heap hbb
    have y0 : wz.cell? ⟨b, 0, none⟩ = some (.pointer none) := by rw [Lib.cell_of_heap hbb]; rfl
    have y1 : wz.cell? ⟨b, 1, none⟩ = some (.pointer none) := by rw [Lib.cell_of_heap hbb]; rfl
    have HE : Hid (((wz.setCell ⟨b, 0, none⟩ (.pointer (some ⟨p.bx, 0, none⟩))).setCell ⟨b, 1, none⟩ (.pointer (some ⟨p.by_, 0, none⟩))).heap[b]? = some (.cells #[.pointer (some ⟨p.bx, 0, none⟩), .pointer (some ⟨p.by_, 0, none⟩)] 47 (0, 0)) ∧ W.heap.size ≤ b ∧ Kept (fun _ => False) W ((wz.setCell ⟨b, 0, none⟩ (.pointer (some ⟨p.bx, 0, none⟩))).setCell ⟨b, 1, none⟩ (.pointer (some ⟨p.by_, 0, none⟩)))) := by
     refine ⟨?_, hbW, Kept.setCell (Kept.setCell hkz (p := ⟨b, 0, none⟩) (fun h => absurd h (by show ¬ b < _; omega)) _) (p := ⟨b, 1, none⟩) (fun h => absurd h (by show ¬ b < _; omega)) _⟩
     rw [heap_set_same (heap_set_same hbb 0 _)]; rfl
    clear hvv hk hkz hbb hbW
    simp only [List.take_succ_cons, List.take_zero, List.drop_succ_cons, List.drop_zero, putAll, Act.put, h13, h14]
    simp only [Nat.reduceAdd, Nat.zero_add, List.setIfInBounds_toArray, List.set_cons_succ, List.set_cons_zero]
    go_wp2_with fail
    go_meet
    exact ⟨b, rfl, HE.out⟩
  case rest =>
  obtain ⟨w2, hw2⟩ : ∃ x, x = wc := ⟨_, rfl⟩
  subst hw2
  obtain ⟨b, rfl, hbb, hbW, k2⟩ := hcut
  obtain ⟨GW, hW⟩ := HW.out
  have G2 := GW.quiet k2
  have K02 := hW.trans' k2
  have hpm := List.mem_of_getElem? HI.out
  have hPA := G2.peers p hpm
  have hb2 := k2.heap HB.out (fun h => h)
  replace q0 := k2.cell' q0 (fun h => h)
  have q2 : w2.cell? ⟨w.heap.size, 2, none⟩ = some (.int .i64 A) := by rw [Lib.cell_of_heap hb2]; rfl
  have q3 : w2.cell? ⟨w.heap.size, 3, none⟩ = some (.int .i64 B) := by rw [Lib.cell_of_heap hb2]; rfl
  have q4 : w2.cell? ⟨w.heap.size, 4, none⟩ = some (.slice la ns.length lc) := by rw [Lib.cell_of_heap hb2]; rfl
  have q5 : w2.cell? ⟨w.heap.size, 5, none⟩ = some (.slice sa ls.length sc) := by rw [Lib.cell_of_heap hb2]; rfl
  have y0 : w2.cell? ⟨b, 0, none⟩ = some (.pointer (some ⟨p.bx, 0, none⟩)) := by rw [Lib.cell_of_heap hbb]; rfl
  have y1 : w2.cell? ⟨b, 1, none⟩ = some (.pointer (some ⟨p.by_, 0, none⟩)) := by rw [Lib.cell_of_heap hbb]; rfl
  replace q1 := k2.cell' q1 (fun h => h)
  have zb := lt_of_heap hbb
  have zo := lt_of_heap hb2
  have hlen := HLN.out
  have hmo := hmore.out
  have hquiet : Hid (∀ w', Kept (fun _ => False) w2 w' → StepEnd M B0 w w' bw q c (ns.length + ls.length)) := fun w' k' => ⟨(K02.trans' k').mono (fun _ _ h => h.elim), S, (G2.quiet k').more hmo, hlen.up (Nat.le_succ _) (by omega)⟩
  have hBz : B0 ≤ w2.heap.size := Nat.le_trans hB K02.size
  have hoffS : ∀ (a : Option Addr) (n : Nat), (0 < n → ∀ ad, a = some ad → ad.block < B0) → OffP S a n := fun a n ha hn ad hd r hr hf => by
   have h1 := G2.new ad.block (Or.inr ⟨r, hr, hf⟩)
   have h2 := ha hn ad hd
   omega
  have hoffN : ∀ (a : Option Addr) (n : Nat), (∀ ad, a = some ad → w2.heap.size ≤ ad.block) → OffP S a n := fun a n ha _ ad hd r hr hf => (G2.fresh (ha ad hd)).2.1 r hr hf
  have htk : Hid (6 ≤ last → ∀ (w3 : World), Kept (fun _ => False) w2 w3 → ∀ (a : Option Addr) (cp : Nat) (l3 : List (List UInt8)), l3.length ≤ cp → cp ≤ maxLen → l3.length ≤ ns.length + ls.length + 1 → StrsG w3 a l3 → OffP S a l3.length → Calls Tryz.prog 20 #[.agg #[.pointer (some ⟨p.bx, 0, none⟩), .pointer (some ⟨p.by_, 0, none⟩)], .slice a l3.length cp] w3 fun e' w' => e' = .returned (.bool true) ∧ StepEnd M B0 w w' bw q c (ns.length + ls.length)) := by
   intro h6 w3 k3 a cp l3 hcp hcm hl3 hs3 ho3
   refine ((hT h6).1 M B0 w3 bw S ix p (G2.quiet k3) (Nat.le_trans hBz k3.size) HI.out a cp l3 hcp hcm (by omega) hs3 ho3).mono ?_
   rintro e' w' ⟨he, hk, ps', G', hpl'⟩
   refine ⟨he, ((K02.trans' k3).mono (fun _ _ h => h.elim)).trans hk (fun _ _ h => h), _, G'.more (by omega), ?_⟩
   exact ⟨by show ps'.length ≤ _; rw [hpl']; exact Nat.le_succ_of_le hlen.ps, by show S.pks.length ≤ _; have := hlen.pks; omega, hlen.nm, by show S.ns.length ≤ _; have := hlen.ns; omega, hlen.tm, by show S.ts.length ≤ _; have := hlen.ts; omega⟩
  clear cc x0 x1 hpk hneb hposi hpli hili HPK hil HB HW GW hW hbW
  by_cases d2 : kind = 2
  ·subst d2
   have h1 := text_pm p.s p.bx p.F w2 hPA.x (by have := hPA.two.rowLen; omega) hPA.two.fit.row
   have h2 := fun (w3 : World) (k3 : Kept (fun _ => False) w2 w3) => (by
    obtain ⟨⟨rv, bo, vs, hv, hR⟩, _⟩ := hPA.y
    have := rtext_any (hR.kept k3 (fun _ _ h => h)) (by rw [hPA.two.row]; have := hPA.two.rowLen; omega) (by rw [hPA.two.row]; exact fun e he => (hPA.two.els e he).2.2)
    rw [hPA.two.row] at this
    exact this : Calls Tryz.prog 14 #[.pointer (some ⟨p.by_, 0, none⟩)] w3 fun e' w' => e' = .returned (.string ⟨(textBytes p.s.row).toArray⟩) ∧ Kept (fun _ => False) w3 w')
   obtain ⟨SS, hSS⟩ : ∃ SS : ByteArray, (⟨(textBytes p.s.row).toArray⟩ : ByteArray) = SS := ⟨_, rfl⟩
   rw [hSS] at h1 h2
   clear hPA G2 hSS hb2 hbb htk hoffS hoffN hT hRs hlen hnsG hlsG hns hla hsa
   go_wp2_with fail
   refine h1.mono ?_
   rintro e3 w3 ⟨rfl, k3⟩
   have h2' := h2 w3 k3
   replace y1 := k3.cell' y1 (fun h => h)
   have zb3 : b < w3.heap.size := World.block_lt_of_cell? w3 _ y1
   clear h1 h2
   go_wp2_with fail
   refine h2'.mono ?_
   rintro e4 w4 ⟨rfl, k4⟩
   have HE : Hid _ := hquiet.out w4 (k3.trans' k4)
   clear h2' k3 k4
   go_wp2
   go_ret
   exact ⟨rfl, HE.out⟩
  have n2 : (kind == 2) = false := by rw [beq_eq_false_iff_ne]; exact d2
  by_cases d3 : kind = 3
  ·subst d3
   have hN8 := hPA.two.fit.n8
   have hlenK := hPA.two.fit.len
   have h1 := known_pm p.s p.N p.bx p.F w2 hPA.x hPA.two.fit
   have h2 := fun (w3 : World) (k3 : Kept (fun _ => False) w2 w3) => (by
    obtain ⟨⟨rv, bo, vs, hv, hR⟩, _⟩ := hPA.y
    have := rknown_any (hR.kept k3 (fun _ _ h => h)) (by rw [hPA.two.opsN]; exact hN8)
    rw [hPA.two.known] at this
    exact this : Calls Tryz.prog 16 #[.pointer (some ⟨p.by_, 0, none⟩)] w3 fun e' w' => ∃ v, e' = .returned v ∧ IntsAt w' v p.s.known ∧ Kept (fun _ => False) w3 w' ∧ (∀ k, v.ownBlock = some k → w3.heap.size ≤ k))
   obtain ⟨kn, hkn⟩ : ∃ kn, p.s.known = kn := ⟨_, rfl⟩
   rw [hkn] at h1 h2 hlenK
   have HG : Hid (WSt M B0 w2 bw S) := G2
   have HK2 : Hid (Kept (fun _ => False) w w2) := K02
   have hkl8 : kn.length ≤ 8 := by omega
   clear hPA G2 hb2 hbb htk hoffS hoffN hT hRs hnsG hlsG hns hla hsa hlenK hquiet hkn K02
   go_wp2_with fail
   refine h1.mono ?_
   rintro e3 w3 ⟨rfl, hB3, k3⟩
   have h2' := h2 w3 k3
   replace y1 := k3.cell' y1 (fun h => h)
   have zb3 : b < w3.heap.size := World.block_lt_of_cell? w3 _ y1
   clear h1 h2
   go_wp2_with fail
   refine h2'.mono ?_
   rintro e4 w4 ⟨v, rfl, hI, k4, hnb⟩
   obtain ⟨va, vc, hve, hvc⟩ := hI.cells
   subst hve
   have hB4 := k4.heap hB3 (fun h => h)
   have hnum1 : NumsAt w4 (.slice (some ⟨w2.heap.size, 0, none⟩) kn.length kn.length) (kn.map fun (n : Nat) => (n : Int)) := by
    refine ⟨_, _, by rw [List.length_map], fun i n hi => ⟨w2.heap.size, rfl, ?_⟩⟩
    rw [List.getElem?_map] at hi
    cases hki : kn[i]? with
    | none => rw [hki] at hi; cases hi
    | some x =>
     rw [hki] at hi
     simp at hi
     subst hi
     rw [Lib.cell_of_heap hB4, i64s_at, hki]; rfl
   have hnum2 : NumsAt w4 (.slice va kn.length vc) (kn.map fun (n : Nat) => (n : Int)) := by
    refine ⟨va, vc, by rw [List.length_map], fun i n hi => ?_⟩
    rw [List.getElem?_map] at hi
    cases hki : kn[i]? with
    | none => rw [hki] at hi; cases hi
    | some x =>
     rw [hki] at hi
     simp at hi
     subst hi
     exact hvc i x hki
   have hsame := lsame_true (kn.map fun (n : Nat) => (n : Int)) _ _ w4 hnum1 hnum2 (by rw [List.length_map]; omega)
   have HB4 : Hid (w4.heap[w2.heap.size]? = some (.cells (i64s kn) 3 (0, 0)) ∧ Kept (fun _ => False) w2 w4) := ⟨hB4, k3.trans' k4⟩
   clear h2' hI hvc hB3 hB4 hnb k3 k4 hnum1 hnum2
   go_wp2_with fail
   refine hsame.mono ?_
   rintro e5 w5 ⟨rfl, k5⟩
   have hown : Hid (Calls Tryz.prog 18 #[.pointer (some ⟨bw, 0, none⟩), .slice (some ⟨w2.heap.size, 0, none⟩) kn.length kn.length] w5 fun e' w' => e' = .returned (.tuple #[]) ∧ StepEnd M B0 w w' bw q c (ns.length + ls.length)) := by
    obtain ⟨hB4, k4⟩ := HB4.out
    have k25 := k4.trans' k5
    have hB5 := k5.heap hB4 (fun h => h)
    have hrow : w5.ownsRow 0 3 1 (.slice (some ⟨w2.heap.size, 0, none⟩) kn.length kn.length) kn.length (kn.map fun (n : Nat) => Value.int .i64 (n : Int)) := by
     refine ⟨by rw [List.length_map, Nat.mul_one], Or.inr ⟨w2.heap.size, kn.length, _, rfl, Nat.zero_le _, hB5, Nat.le_refl _, by unfold maxLen; omega, by simp [i64s], ?_⟩⟩
     simp only [i64s, Nat.mul_one]
     rw [List.take_of_length_le (by simp)]
    have hlen := HLN.out
    have hns4 := hlen.ns
    refine (ownNumbers_any (HG.out.quiet k25) (Nat.le_trans hBz k25.size) _ kn.length _ hrow (by omega) (fun b hb => by
     have : b = w2.heap.size := by simpa [Value.ownBlock] using hb.symm
     subst this
     exact HG.out.fresh (Nat.le_refl _)) (fun b hb => by
     have : b = w2.heap.size := by simpa [Value.ownBlock] using hb.symm
     subst this
     exact hBz) hlen.nm (by omega)).mono ?_
    rintro e6 w6 ⟨he, S', G', s1, s2, s3, s4, s5, s6, hk6⟩
    refine ⟨he, ((HK2.out.trans' k25).mono (fun _ _ h => h.elim)).trans hk6 (fun _ _ h => h), S', G'.more hmore.out, ?_⟩
    have hpk := hlen.pks
    have hts := hlen.ts
    exact ⟨by rw [s1]; exact Nat.le_succ_of_le hlen.ps, by rw [s2]; omega, by rw [s5, s6, hlen.nm], by omega, by rw [s3, s4]; exact hlen.tm, by rw [s3]; omega⟩
   have hown' := hown.out
   clear hsame HB4 k5 hown HG HK2
   go_wp2_with fail
   refine hown'.mono ?_
   rintro e6 w6 ⟨rfl, hE⟩
   have HE : Hid _ := hE
   clear hown' hE
   go_wp2
   go_ret
   exact ⟨rfl, HE.out⟩
  have n3 : (kind == 3) = false := by rw [beq_eq_false_iff_ne]; exact d3
  by_cases d45 : kind = 4 ∨ kind = 5
  ·have hwr : Hid (Calls Tryz.prog 19 #[.pointer (some ⟨bw, 0, none⟩), .agg #[.pointer (some ⟨p.bx, 0, none⟩), .pointer (some ⟨p.by_, 0, none⟩)], .agg #[.int .i64 kind, .int .i64 P, .int .i64 A, .int .i64 B, .slice la ns.length lc, .slice sa ls.length sc]] w2 fun e' w' => e' = .returned (.bool true) ∧ StepEnd M B0 w w' bw q c (ns.length + ls.length)) := by
    have hpkl := hlen.pks
    refine (writes_any G2 hBz (by omega) (by omega) HI.out kind P A B hA1 hA2 la sa ns.length lc ls.length sc).mono ?_
    rintro e' w' ⟨he, hk, S', G', s1, s2, s3, s4, s5, s6⟩
    refine ⟨he, (K02.mono (fun _ _ h => h.elim)).trans hk (fun _ _ h => h), S', G'.more (by omega), ?_⟩
    have hns4 := hlen.ns
    have hts4 := hlen.ts
    exact ⟨by rw [s1]; exact Nat.le_succ_of_le hlen.ps, by omega, by rw [s3, s5]; exact hlen.nm, by rw [s3]; omega, by rw [s4, s6]; exact hlen.tm, by rw [s4]; omega⟩
   have hwr' := hwr.out
   clear hwr hPA G2 hb2 hbb htk hoffS hoffN hT hRs hlen hnsG hlsG hns hla hsa hquiet K02 k2
   by_cases d4 : kind = 4
   ·subst d4
    clear d45
    go_wp2_with fail
    refine hwr'.mono ?_
    rintro e3 w3 ⟨rfl, hE⟩
    have HE : Hid _ := hE
    clear hwr' hE
    go_wp2
    go_ret
    exact ⟨rfl, HE.out⟩
   ·have d5 : kind = 5 := d45.resolve_left d4
    subst d5
    clear d45 d4
    go_wp2_with fail
    refine hwr'.mono ?_
    rintro e3 w3 ⟨rfl, hE⟩
    have HE : Hid _ := hE
    clear hwr' hE
    go_wp2
    go_ret
    exact ⟨rfl, HE.out⟩
  have n4 : (kind == 4) = false := by rw [beq_eq_false_iff_ne]; exact fun e => d45 (Or.inl e)
  have n5 : (kind == 5) = false := by rw [beq_eq_false_iff_ne]; exact fun e => d45 (Or.inr e)
  by_cases d6 : kind = 6
  ·subst d6
   have htk' := htk.out hkl w2 (Kept.refl _ _) sa sc ls hsc.1 hsc.2 (by omega) (hlsG.keep K02 (fun _ _ _ h => h)) (hoffS sa _ hsa)
   clear hPA G2 hb2 hbb htk hoffS hoffN hT hRs hlen hnsG hlsG hns hla hsa hquiet K02 k2 d45
   go_wp2_with fail
   refine htk'.mono ?_
   rintro e3 w3 ⟨rfl, hE⟩
   have HE : Hid _ := hE
   clear htk' hE
   go_wp2
   go_ret
   exact ⟨rfl, HE.out⟩
  have n6 : (kind == 6) = false := by rw [beq_eq_false_iff_ne]; exact d6
  by_cases d7 : kind = 7
  ·subst d7
   have h6 : 6 ≤ last := by omega
   have hpkl := hlen.pks
   have hso := fun (w3 : World) (k3 : Kept (fun _ => False) w2 w3) => (hT h6).2.1 M B0 w3 bw S (G2.quiet k3) (by omega) la lc ns (by omega) ((hnsG.keep K02 (fun _ _ _ h => h)).keep k3 (fun _ _ _ h => h)) hns
   have HTK : Hid _ := htk.out h6
   have HOF : Hid (∀ (a : Option Addr) (n : Nat), (∀ ad, a = some ad → w2.heap.size ≤ ad.block) → OffP S a n) := hoffN
   clear hPA G2 hb2 hbb htk hoffS hoffN hT hRs hlen hnsG hlsG hns hla hsa hquiet K02 k2 d45
   go_upto_region 29 with fail
   go_cut [4] (fun v wd => v = .bool true ∧ StepEnd M B0 w wd bw q c (ns.length + ls.length))
   case first =>
    refine wp_region_tailB (by kernel_rfl) 5 _ rfl (by kernel_rfl) (fun _ => False) 4 (fun iz v wx => match iz with
     | 0 => v = .agg #[.pointer (some ⟨p.bx, 0, none⟩), .pointer (some ⟨p.by_, 0, none⟩)]
     | 1 => v = .pointer (some ⟨bw, 0, none⟩)
     | 2 => v = .pointer (some ⟨w.heap.size, 4, none⟩)
     | 3 => v = .slice la ns.length lc
     | 4 => ∃ a' c' l3, v = .slice a' (List.length l3) c' ∧ List.length l3 ≤ c' ∧ c' ≤ maxLen ∧ StrsG wx a' l3 ∧ List.length l3 ≤ ns.length + ls.length + 1 ∧ (∀ ad, a' = some ad → w2.heap.size ≤ ad.block)
     | _ => True) ?_ ?_ ?_ ?_ ?_
    ·intro i v wa wb hv hk
     split at hv
     case h_5 =>
      obtain ⟨a', c', l3, h1, h2, h3, h4, h5, h6⟩ := hv
      exact ⟨a', c', l3, h1, h2, h3, h4.keep hk (fun _ _ _ h => h), h5, h6⟩
     all_goals exact hv
    ·intro i v wa wb hi hv hk
     split at hv
     case h_5 =>
      exact absurd rfl hi
     all_goals exact hv
    ·intro i o' hin his hi a' wa hk' up
     have hkk : Kept (fun _ => False) w2 wa := ((Kept.refl _ w2).drew).trans' hk'
     have u0 := hkk.cell' y0 (fun h => h)
     have u1 := hkk.cell' y1 (fun h => h)
     have u4 := hkk.cell' q4 (fun h => h)
     have hold : ∀ d : Nat, (d = 0 ∨ d = 3 ∨ d = 9) → a'.tmps[d]? = _ := fun d hd => up.old d (by
      intro j oj hj hjd
      exfalso
      rcases j with _ | _ | _ | _ | _ | _ | _ | j <;> simp at hj <;> subst hj <;> simp at hjd <;> omega)
     have o0 := hold 0 (by decide)
     have o3 := hold 3 (by decide)
     have o9 := hold 9 (by decide)
     simp at o0 o3 o9
     clear hold
     rcases i with _ | _ | _ | _ | _ | i
     all_goals simp only [List.getElem?_cons_zero, List.getElem?_cons_succ, List.getElem?_nil, Option.some.injEq, reduceCtorEq] at hi
     all_goals try subst hi
     ·simp [Oper.wp, go_sem, Act.eval, o9, u0, u1]
      exact ⟨_, rfl, rfl, Kept.refl _ _⟩
     ·simp [Oper.wp, go_sem, Act.eval, o0]
      exact ⟨_, rfl, rfl, Kept.refl _ _⟩
     ·simp [Oper.wp, go_sem, Act.eval, o3]
      exact ⟨_, rfl, rfl, Kept.refl _ _⟩
     ·obtain ⟨_, s2, rfl⟩ := up.d 2 125 rfl rfl
      simp [Oper.wp, go_sem, Act.eval, s2, u4]
      exact ⟨_, rfl, rfl, Kept.refl _ _⟩
     ·exact absurd rfl his
     ·omega
    ·intro o' _ ho a' wa hk' up
     have hkk : Kept (fun _ => False) w2 wa := ((Kept.refl _ w2).drew).trans' hk'
     have u0 := hkk.cell' y0 (fun h => h)
     have u1 := hkk.cell' y1 (fun h => h)
     have u4 := hkk.cell' q4 (fun h => h)
     simp only [List.getElem?_cons_zero, List.getElem?_cons_succ, List.getElem?_nil, Option.some.injEq, reduceCtorEq] at ho
     subst ho
     obtain ⟨_, s1, rfl⟩ := up.d 1 124 rfl rfl
     obtain ⟨_, s3, rfl⟩ := up.d 3 126 rfl rfl
     simp [Oper.wp, go_sem, Act.eval, s1, s3]
     refine (hso wa hkk).mono ?_
     rintro e' w' ⟨a', c', l3, rfl, h2, h3, h4, h5, h6, h7⟩
     exact ⟨_, rfl, ⟨a', c', l3, rfl, h2, h3, h4, by omega, fun ad hd => Nat.le_trans hkk.size (h7 ad hd)⟩, h6⟩
    ·intro vals wz hk hvv
     have h0 : vals 0 = _ := hvv 0 (by decide)
     obtain ⟨a', c', l3, hv4, h2, h3, h4, h5, h6⟩ := hvv 4 (by decide)
     have hkz : Kept (fun _ => False) w2 wz := ((Kept.refl _ w2).drew).trans' hk
     have htk' := HTK.out wz hkz a' c' l3 h2 h3 h5 h4 (HOF.out a' _ h6)
     clear hvv hk hkz h2 h3 h4 h5 h6 HTK HOF hso q0 q1 q2 q3 q4 q5 y0 y1 zb zo
     simp only [List.take_succ_cons, List.take_zero, List.drop_succ_cons, List.drop_zero, putAll, Act.put, h0, hv4]
     simp only [Nat.reduceAdd, Nat.zero_add, List.setIfInBounds_toArray, List.set_cons_succ, List.set_cons_zero]
     go_wp2_with fail
     refine htk'.mono ?_
     rintro e3 w3 ⟨rfl, hE⟩
     have HE : Hid _ := hE
     clear htk' hE
     go_wp2_with fail
     go_meet
     exact ⟨rfl, HE.out⟩
   case rest =>
   obtain ⟨rfl, hE⟩ := hcut
   have HE : Hid _ := hE
   clear hE
   go_wp2
   go_ret
   exact ⟨rfl, HE.out⟩
  have n7 : (kind == 7) = false := by rw [beq_eq_false_iff_ne]; exact d7
  by_cases d8 : kind = 8
  ·subst d8
   have h6 : 6 ≤ last := by omega
   have hpkl := hlen.pks
   have hbe := fun (w3 : World) (k3 : Kept (fun _ => False) w2 w3) => (hT h6).2.2 M B0 w3 bw S (G2.quiet k3) (by omega) A B (decide ((0 : Int) < (ns.length : Int))) hA1 hA2 hB1 hB2
   have HTK : Hid _ := htk.out h6
   have HOF : Hid (∀ (a : Option Addr) (n : Nat), (∀ ad, a = some ad → w2.heap.size ≤ ad.block) → OffP S a n) := hoffN
   obtain ⟨rb, hrb⟩ : ∃ rb : Bool, decide ((0 : Int) < (ns.length : Int)) = rb := ⟨_, rfl⟩
   rw [hrb] at hbe
   have HRB : Hid (decide ((0 : Int) < (ns.length : Int)) = rb) := hrb
   clear hPA G2 hb2 hbb htk hoffS hoffN hT hRs hlen hnsG hlsG hns hla hsa hquiet K02 k2 d45 hrb
   go_upto_region 31 with fail
   go_cut [4] (fun v wd => v = .bool true ∧ StepEnd M B0 w wd bw q c (ns.length + ls.length))
   case first =>
    refine wp_region_tailB (by kernel_rfl) 11 _ rfl (by kernel_rfl) (fun _ => False) 10 (fun iz v wx => match iz with
     | 0 => v = .agg #[.pointer (some ⟨p.bx, 0, none⟩), .pointer (some ⟨p.by_, 0, none⟩)]
     | 1 => v = .pointer (some ⟨bw, 0, none⟩)
     | 2 => v = .pointer (some ⟨w.heap.size, 2, none⟩)
     | 3 => v = .int .i64 A
     | 4 => v = .pointer (some ⟨w.heap.size, 3, none⟩)
     | 5 => v = .int .i64 B
     | 6 => v = .pointer (some ⟨w.heap.size, 4, none⟩)
     | 7 => v = .slice la ns.length lc
     | 8 => v = .int .i64 ns.length
     | 9 => v = .bool rb
     | 10 => ∃ a' c' l3, v = .slice a' (List.length l3) c' ∧ List.length l3 ≤ c' ∧ c' ≤ maxLen ∧ StrsG wx a' l3 ∧ List.length l3 ≤ ns.length + ls.length + 1 ∧ (∀ ad, a' = some ad → w2.heap.size ≤ ad.block)
     | _ => True) ?_ ?_ ?_ ?_ ?_
    ·intro i v wa wb hv hk
     split at hv
     case h_11 =>
      obtain ⟨a', c', l3, h1, h2, h3, h4, h5, h6⟩ := hv
      exact ⟨a', c', l3, h1, h2, h3, h4.keep hk (fun _ _ _ h => h), h5, h6⟩
     all_goals exact hv
    ·intro i v wa wb hi hv hk
     split at hv
     case h_11 =>
      exact absurd rfl hi
     all_goals exact hv
    ·intro i o' hin his hi a' wa hk' up
     have hkk : Kept (fun _ => False) w2 wa := ((Kept.refl _ w2).drew).trans' hk'
     have u0 := hkk.cell' y0 (fun h => h)
     have u1 := hkk.cell' y1 (fun h => h)
     have u2 := hkk.cell' q2 (fun h => h)
     have u3 := hkk.cell' q3 (fun h => h)
     have u4 := hkk.cell' q4 (fun h => h)
     have hold : ∀ d : Nat, (d = 0 ∨ d = 3 ∨ d = 9) → a'.tmps[d]? = _ := fun d hd => up.old d (by
      intro j oj hj hjd
      exfalso
      rcases j with _ | _ | _ | _ | _ | _ | _ | _ | _ | _ | _ | _ | _ | j <;> simp at hj <;> subst hj <;> simp at hjd <;> omega)
     have o0 := hold 0 (by decide)
     have o3 := hold 3 (by decide)
     have o9 := hold 9 (by decide)
     simp at o0 o3 o9
     clear hold
     rcases i with _ | _ | _ | _ | _ | _ | _ | _ | _ | _ | _ | i
     all_goals simp only [List.getElem?_cons_zero, List.getElem?_cons_succ, List.getElem?_nil, Option.some.injEq, reduceCtorEq] at hi
     all_goals try subst hi
     ·simp [Oper.wp, go_sem, Act.eval, o9, u0, u1]
      exact ⟨_, rfl, rfl, Kept.refl _ _⟩
     ·simp [Oper.wp, go_sem, Act.eval, o0]
      exact ⟨_, rfl, rfl, Kept.refl _ _⟩
     ·simp [Oper.wp, go_sem, Act.eval, o3]
      exact ⟨_, rfl, rfl, Kept.refl _ _⟩
     ·obtain ⟨_, s2, rfl⟩ := up.d 2 133 rfl rfl
      simp [Oper.wp, go_sem, Act.eval, s2, u2]
      exact ⟨_, rfl, rfl, Kept.refl _ _⟩
     ·simp [Oper.wp, go_sem, Act.eval, o3]
      exact ⟨_, rfl, rfl, Kept.refl _ _⟩
     ·obtain ⟨_, s4, rfl⟩ := up.d 4 135 rfl rfl
      simp [Oper.wp, go_sem, Act.eval, s4, u3]
      exact ⟨_, rfl, rfl, Kept.refl _ _⟩
     ·simp [Oper.wp, go_sem, Act.eval, o3]
      exact ⟨_, rfl, rfl, Kept.refl _ _⟩
     ·obtain ⟨_, s6, rfl⟩ := up.d 6 137 rfl rfl
      simp [Oper.wp, go_sem, Act.eval, s6, u4]
      exact ⟨_, rfl, rfl, Kept.refl _ _⟩
     ·obtain ⟨_, s7, rfl⟩ := up.d 7 138 rfl rfl
      simp [Oper.wp, go_sem, Act.eval, s7]
      exact ⟨_, rfl, rfl, Kept.refl _ _⟩
     ·obtain ⟨_, s8, rfl⟩ := up.d 8 139 rfl rfl
      simp [Oper.wp, go_sem, Act.eval, s8]
      exact ⟨_, rfl, by rw [← HRB.out]; simp, Kept.refl _ _⟩
     ·exact absurd rfl his
     ·omega
    ·intro o' _ ho a' wa hk' up
     have hkk : Kept (fun _ => False) w2 wa := ((Kept.refl _ w2).drew).trans' hk'
     have u0 := hkk.cell' y0 (fun h => h)
     have u1 := hkk.cell' y1 (fun h => h)
     have u2 := hkk.cell' q2 (fun h => h)
     have u3 := hkk.cell' q3 (fun h => h)
     have u4 := hkk.cell' q4 (fun h => h)
     simp only [List.getElem?_cons_zero, List.getElem?_cons_succ, List.getElem?_nil, Option.some.injEq, reduceCtorEq] at ho
     subst ho
     obtain ⟨_, s1, rfl⟩ := up.d 1 132 rfl rfl
     obtain ⟨_, s3, rfl⟩ := up.d 3 134 rfl rfl
     obtain ⟨_, s5, rfl⟩ := up.d 5 136 rfl rfl
     obtain ⟨_, s9, rfl⟩ := up.d 9 140 rfl rfl
     simp [Oper.wp, go_sem, Act.eval, s1, s3, s5, s9]
     refine (hbe wa hkk).mono ?_
     rintro e' w' ⟨a', c', l3, rfl, h2, h3, h4, h5, h6, h7⟩
     exact ⟨_, rfl, ⟨a', c', l3, rfl, h2, h3, h4, by omega, fun ad hd => Nat.le_trans hkk.size (h7 ad hd)⟩, h6⟩
    ·intro vals wz hk hvv
     have h0 : vals 0 = _ := hvv 0 (by decide)
     obtain ⟨a', c', l3, hv10, h2, h3, h4, h5, h6⟩ := hvv 10 (by decide)
     have hkz : Kept (fun _ => False) w2 wz := ((Kept.refl _ w2).drew).trans' hk
     have htk' := HTK.out wz hkz a' c' l3 h2 h3 h5 h4 (HOF.out a' _ h6)
     clear hvv hk hkz h2 h3 h4 h5 h6 HTK HOF hbe q0 q1 q2 q3 q4 q5 y0 y1 zb zo
     simp only [List.take_succ_cons, List.take_zero, List.drop_succ_cons, List.drop_zero, putAll, Act.put, h0, hv10]
     simp only [Nat.reduceAdd, Nat.zero_add, List.setIfInBounds_toArray, List.set_cons_succ, List.set_cons_zero]
     go_wp2_with fail
     refine htk'.mono ?_
     rintro e3 w3 ⟨rfl, hE⟩
     have HE : Hid _ := hE
     clear htk' hE
     go_wp2_with fail
     go_meet
     exact ⟨rfl, HE.out⟩
   case rest =>
   obtain ⟨rfl, hE⟩ := hcut
   have HE : Hid _ := hE
   clear hE
   go_wp2
   go_ret
   exact ⟨rfl, HE.out⟩
  have n8 : (kind == 8) = false := by rw [beq_eq_false_iff_ne]; exact d8
  by_cases d9 : kind = 9
  ·subst d9
   have hre := (hRs hkl M B0 w2 bw S ix p q c G2 hlen hBz HI.out (by omega) hq hc la lc ns hlc.1 hlc.2 (by omega) (hnsG.keep K02 (fun _ _ _ h => h)) hns (hoffS la _ hla))
   have hre' : Calls Tryz.prog 23 #[.pointer (some ⟨bw, 0, none⟩), .agg #[.pointer (some ⟨p.bx, 0, none⟩), .pointer (some ⟨p.by_, 0, none⟩)], .slice la ns.length lc] w2 fun e' w' => e' = .returned (.bool true) ∧ StepEnd M B0 w w' bw q c (ns.length + ls.length) := by
    refine hre.mono ?_
    rintro e' w' ⟨he, hk, S', G', hl'⟩
    exact ⟨he, (K02.mono (fun _ _ h => h.elim)).trans hk (fun _ _ h => h), S', G'.more hmo, hl'.up (Nat.le_refl _) (by omega)⟩
   clear hre hPA G2 hb2 hbb htk hoffS hoffN hT hRs hlen hnsG hlsG hns hla hsa hquiet K02 k2 d45
   go_wp2_with fail
   refine hre'.mono ?_
   rintro e3 w3 ⟨rfl, hE⟩
   have HE : Hid _ := hE
   clear hre' hE
   go_wp2
   go_ret
   exact ⟨rfl, HE.out⟩
  have n9 : (kind == 9) = false := by rw [beq_eq_false_iff_ne]; exact d9
  have HE : Hid _ := hquiet.out w2 (Kept.refl _ _)
  clear hPA G2 hb2 hbb htk hoffS hoffN hT hRs hlen hnsG hlsG hns hla hsa hquiet K02 k2 d45
  go_wp2
  go_ret
  exact ⟨rfl, HE.out⟩
structure SOp where
 kind : Int
 P : Int
 A : Int
 B : Int
 la : Option Addr
 sa : Option Addr
 ns : List Int
 ls : List (List UInt8)
 lc : Nat
 sc : Nat
def i64r (n : Int) : Prop := -9223372036854775808 ≤ n ∧ n ≤ 9223372036854775807
structure SOp.Ok (w : World) (o : SOp) : Prop where
 P : i64r o.P
 A : i64r o.A
 B : i64r o.B
 kind : i64r o.kind
 lc : o.ns.length ≤ o.lc ∧ o.lc ≤ maxLen
 sc : o.ls.length ≤ o.sc ∧ o.sc ≤ maxLen
 nsG : IntsG w o.la o.ns
 lsG : StrsG w o.sa o.ls
 ns : ∀ n ∈ o.ns, i64r n
 la : 0 < o.ns.length → ∀ ad, o.la = some ad → ad.block < w.heap.size
 sa : 0 < o.ls.length → ∀ ad, o.sa = some ad → ad.block < w.heap.size
def SOp.cells (o : SOp) : List Value := [.int .i64 o.kind, .int .i64 o.P, .int .i64 o.A, .int .i64 o.B, .slice o.la o.ns.length o.lc, .slice o.sa o.ls.length o.sc]
def ScriptAt (w : World) (a : Option Addr) (os : List SOp) : Prop := ∀ (i : Nat) (o : SOp), os[i]? = some o → o.Ok w ∧ ∃ g off, a = some ⟨g, off, none⟩ ∧ ∀ (j : Nat) (u : Value), o.cells[j]? = some u → w.cell? ⟨g, off + i * 6 + j, none⟩ = some u
def wt : List SOp → Nat
 | [] => 0
 | o :: r => (7 + (o.ns.length + o.ls.length)) + wt r
theorem wt_append (a b : List SOp) : wt (a ++ b) = wt a + wt b := by
 induction a with
 | nil => simp [wt]
 | cons x r ih => simp only [List.cons_append, wt, ih]; omega
theorem wt_take (l : List SOp) (k : Nat) (o : SOp) (h : l[k]? = some o) : wt (l.take (k + 1)) = wt (l.take k) + (7 + (o.ns.length + o.ls.length)) := by
 have hk : k < l.length := (List.getElem?_eq_some_iff.1 h).1
 have he : l[k] = o := (List.getElem?_eq_some_iff.1 h).2
 rw [List.take_succ_eq_append_getElem hk, wt_append, he]
 simp [wt]
theorem wt_le (l : List SOp) (k : Nat) : wt (l.take k) ≤ wt l := by
 have := wt_append (l.take k) (l.drop k)
 rw [List.take_append_drop] at this
 omega
theorem wt_len (l : List SOp) : 7 * l.length ≤ wt l := by
 induction l with
 | nil => simp [wt]
 | cons x r ih => simp only [wt, List.length_cons]; omega
structure Run (os : List SOp) (W wr : World) (bw : Nat) (k : Nat) : Prop where
 kept : Kept (fun b => bw ≤ b) W wr
 state : ∃ S M c, WSt M bw wr bw S ∧ WLen S (2 + k) c ∧ M ≤ 2 + wt (os.take k) ∧ c ≤ (2 + k) * 1048600
theorem step_both (last : Int) (hT : 6 ≤ last → TakesOk ∧ SomeOk ∧ BentOk) (hRs : 9 ≤ last → RestOk) {M B0 : Nat} {w : World} {bw : Nat} {S : WS} {q c : Nat} (h : WSt M B0 w bw S) (hL : WLen S q c) (hB : B0 ≤ w.heap.size) (hq : q ≤ 4294967) (hc : c ≤ 1099511627776) (w0 : World) (o : SOp) (ho : o.Ok w0) (hkl : o.kind ≤ last) (hM : M + 1 + (o.ns.length + o.ls.length) ≤ 4294967) (h0 : B0 = w0.heap.size) (hk : Kept (fun b => B0 ≤ b) w0 w) :
  Calls Tryz.prog 7 #[.pointer (some ⟨bw, 0, none⟩), .agg #[.int .i64 o.kind, .int .i64 o.P, .int .i64 o.A, .int .i64 o.B, .slice o.la o.ns.length o.lc, .slice o.sa o.ls.length o.sc]] w fun e' w' => e' = .returned (.bool true) ∧ StepEnd M B0 w w' bw q c (o.ns.length + o.ls.length) := by
 by_cases hk1 : o.kind = 1
 ·rw [hk1]
  have hps := hL.ps
  refine (step_new h hB (by omega) o.P o.A o.B o.la o.sa o.ns.length o.lc o.ls.length o.sc).mono ?_
  rintro e' w' ⟨he, hk', S', G', s1, s2, s3, s4, s5, s6, _⟩
  refine ⟨he, hk', S', G'.more (by omega), ?_⟩
  have hns := hL.ns
  have hts := hL.ts
  have hpk := hL.pks
  exact ⟨by omega, by rw [s2]; omega, by rw [s3, s5]; exact hL.nm, by rw [s3]; omega, by rw [s4, s6]; exact hL.tm, by rw [s4]; omega⟩
 ·exact step_rest last hT hRs h hL hB hq hc o.kind o.P o.A o.B hk1 hkl ho.P.1 ho.P.2 ho.A.1 ho.A.2 ho.B.1 ho.B.2 o.la o.sa o.ns o.ls o.lc o.sc hM ho.lc ho.sc (ho.nsG.keep hk (fun hn ad hd => by have := ho.la hn ad hd; omega)) (ho.lsG.keep hk (fun hn ad hd => by have := ho.sa hn ad hd; omega)) ho.ns (fun hn ad hd => by have := ho.la hn ad hd; omega) (fun hn ad hd => by have := ho.sa hn ad hd; omega)
theorem opNil_ok (w : World) (k P A B : Int) (hk : i64r k) (hP : i64r P) (hA : i64r A) (hB : i64r B) : (⟨k, P, A, B, none, none, [], [], 0, 0⟩ : SOp).Ok w :=
 ⟨hP, hA, hB, hk, ⟨Nat.le_refl _, Nat.zero_le _⟩, ⟨Nat.le_refl _, Nat.zero_le _⟩, fun i n hi => (by simp at hi), fun i n hi => (by simp at hi), fun n hn => (by cases hn), fun _ ad hd => (by cases hd), fun _ ad hd => (by cases hd)⟩
set_option maxHeartbeats 2000000 in
set_option maxRecDepth 100000 in
theorem played_any (last : Int) (h5 : 5 ≤ last) (hT : 6 ≤ last → TakesOk ∧ SomeOk ∧ BentOk) (hRs : 9 ≤ last → RestOk) (os : List SOp) (a : Option Addr) (cap : Nat) (w : World) (hs : ScriptAt w a os) (hwt : wt os ≤ 1048576) :
  Calls Tryz.prog 6 #[.slice a os.length cap, .int .i64 last] w fun e' w' => e' = .returned (.bool true) ∧ Kept (fun _ => False) w w' := by
 obtain ⟨W, hWe⟩ : ∃ W, W = w.alloc (.cells #[.slice none 0 0, .slice none 0 0, .slice none 0 0, .slice none 0 0, .slice none 0 0, .slice none 0 0] 33) := ⟨_, rfl⟩
 have hW : Kept (fun _ => False) w W := by rw [hWe]; exact (Kept.refl _ w).alloc _
 have hb : W.heap[w.heap.size]? = some (.cells #[.slice none 0 0, .slice none 0 0, .slice none 0 0, .slice none 0 0, .slice none 0 0, .slice none 0 0] 33 (0, 0)) := by rw [hWe]; exact heap_alloc_new w _
 have hz := lt_of_heap hb
 have G0 := WSt.start W w.heap.size hb
 have hlen7 := wt_len os
 obtain ⟨bw, hbw⟩ : ∃ bw, w.heap.size = bw := ⟨_, rfl⟩
 rw [hbw] at hz G0
 have h1 : Calls Tryz.prog 7 #[.pointer (some ⟨bw, 0, none⟩), .agg #[.int .i64 1, .int .i64 0, .int .i64 0, .int .i64 3, .slice none 0 0, .slice none 0 0]] W fun e' w' => e' = .returned (.bool true) ∧ Hid (Kept (fun b => bw ≤ b) w w' ∧ ∃ S, WSt 0 bw w' bw S ∧ WLen S 1 0) := by
  refine (step_new G0 (by omega) (by show 0 ≤ _; omega) 0 0 3 none none 0 0 0 0).mono ?_
  rintro e' w' ⟨he, hk', S', G', s1, s2, s3, s4, s5, s6, s7⟩
  refine ⟨he, (hW.mono (fun _ _ h => h.elim)).trans hk' (fun _ _ h => h), S', G', ?_⟩
  have h7 := s7 (by decide)
  have hp0 : WS.nil.ps.length = 0 := rfl
  exact ⟨by omega, by rw [s2]; exact Nat.le_refl _, by rw [s3, s5]; rfl, by rw [s3]; exact Nat.zero_le _, by rw [s4, s6]; rfl, by rw [s4]; exact Nat.zero_le _⟩
 have h2 : Hid (∀ (w1 : World), Kept (fun b => bw ≤ b) w w1 → (∃ S, WSt 0 bw w1 bw S ∧ WLen S 1 0) → Calls Tryz.prog 7 #[.pointer (some ⟨bw, 0, none⟩), .agg #[.int .i64 4, .int .i64 0, .int .i64 0, .int .i64 97, .slice none 0 0, .slice none 0 0]] w1 fun e' w' => e' = .returned (.bool true) ∧ Run os w w' bw 0) := by
  rintro w1 k1 ⟨S, G, hL⟩
  have hB : bw ≤ w1.heap.size := by have := k1.size; omega
  have ho := opNil_ok w 4 0 0 97 (by unfold i64r; decide) (by unfold i64r; decide) (by unfold i64r; decide) (by unfold i64r; decide)
  refine (step_both last hT hRs G hL hB (by decide) (by decide) w _ ho (by show (4 : Int) ≤ last; omega) (by show 0 + 1 + (0 + 0) ≤ _; decide) hbw.symm k1).mono ?_
  rintro e' w' ⟨he, hk', S', G', hL'⟩
  exact ⟨he, k1.trans hk' (fun _ _ h => h), S', _, _, G'.more (M' := 2) (by show 0 + 1 + (0 + 0) ≤ 2; decide), hL'.up (by decide) (c' := 1) (by decide), by simp [wt], by omega⟩
 have h3 : Hid (∀ (k : Nat) (o : SOp) (wr : World), os[k]? = some o → o.kind ≤ last → Run os w wr bw k → Calls Tryz.prog 7 #[.pointer (some ⟨bw, 0, none⟩), .agg #[.int .i64 o.kind, .int .i64 o.P, .int .i64 o.A, .int .i64 o.B, .slice o.la o.ns.length o.lc, .slice o.sa o.ls.length o.sc]] wr fun e' w' => e' = .returned (.bool true) ∧ Run os w w' bw (k + 1)) := by
  rintro k o wr ho hkl ⟨kr, S, M, c, G, hL, hM, hc⟩
  have hB : bw ≤ wr.heap.size := by have := kr.size; omega
  have hkl2 := (List.getElem?_eq_some_iff.1 ho).1
  have h1 := wt_take os k o ho
  have h2 := wt_le os (k + 1)
  have hcb : (2 + k) * 1048600 ≤ 149798 * 1048600 := Nat.mul_le_mul_right _ (by omega)
  refine (step_both last hT hRs G hL hB (by omega) (by omega) w o (hs k o ho).1 hkl (by omega) hbw.symm kr).mono ?_
  rintro e' w' ⟨he, hk', S', G', hL'⟩
  refine ⟨he, kr.trans hk' (fun _ _ h => h), S', _, (2 + (k + 1)) * 1048600, G', hL'.up (by omega) ?_, by omega, Nat.le_refl _⟩
  rw [show 2 + (k + 1) = (2 + k) + 1 by omega, Nat.add_mul]
  omega
 have h4 : Hid (∀ (k : Nat) (wr : World), k ≤ os.length → Run os w wr bw k → Calls Tryz.prog 8 #[.pointer (some ⟨bw, 0, none⟩)] wr fun e' w' => e' = .returned (.bool true) ∧ Kept (fun _ => False) wr w') := by
  rintro k wr hk ⟨kr, S, M, c, G, hL, hM, hc⟩
  have hns := hL.ns
  have hts := hL.ts
  exact looks_any G hL.nm hL.tm (by omega) (by omega)
 have h5r : Hid (∀ (k : Nat) (wr w' : World), Run os w wr bw k → Kept (fun _ => False) wr w' → Run os w w' bw k) := by
  rintro k wr w' ⟨kr, S, M, c, G, hL, hM, hc⟩ k'
  exact ⟨kr.trans k' (fun _ _ h => h.elim), S, M, c, G.quiet k', hL, hM, hc⟩
 have h6r : Hid (∀ (k : Nat) (o : SOp) (wr : World), os[k]? = some o → Run os w wr bw k → Run os w wr bw (k + 1)) := by
  rintro k o wr ho ⟨kr, S, M, c, G, hL, hM, hc⟩
  have h1 := wt_take os k o ho
  exact ⟨kr, S, M, c, G, hL.up (by omega) (Nat.le_refl _), by omega, Nat.le_trans hc (Nat.mul_le_mul_right _ (by omega))⟩
 have hend : Hid (∀ (k : Nat) (wr : World), Run os w wr bw k → Kept (fun _ => False) w wr) := by
  rintro k wr R
  refine R.kept.mono (fun b hb h => ?_)
  rw [hbw] at hb
  omega
 have HS : Hid (ScriptAt w a os) := hs
 clear G0 hT hRs hb hs hW
 go_enter Tryz.func6, Tryz.ntmps6
 go_upto_region 2 with fail
 rw [← hWe]
 clear hWe
 go_wp2_with fail
 refine h1.mono ?_
 rintro e1 w1 ⟨rfl, H1⟩
 have h2' := h2.out w1 H1.out.1 H1.out.2
 clear h1 h2 H1
 go_wp2_with fail
 refine h2'.mono ?_
 rintro e2 w2 ⟨rfl, R2⟩
 have HR2 : Hid (Run os w w2 bw 0) := R2
 clear h2' R2 hbw hz
 go_wp2_with fail
 go_loopw [6, 7] (fun ok i wr => ok = .bool true ∧ ∃ k : Nat, k ≤ os.length ∧ i = .int .i64 k ∧ Hid (Run os w wr bw k)) (fun _ i _ => os.length - (intOf i).toNat)
 case atStart => exact ⟨rfl, 0, Nat.zero_le _, rfl, HR2⟩
 case round =>
  clear HR2
  obtain ⟨rfl, k, hk, rfl, HR⟩ := hrel
  by_cases hlt : k < os.length
  ·have hlt2 : (k : Int) < (os.length : Int) := by omega
   obtain ⟨o, ho⟩ : ∃ o, os[k]? = some o := ⟨_, List.getElem?_eq_getElem hlt⟩
   obtain ⟨hok, g, off, rfl, hcell⟩ := HS.out k o ho
   have hgz : g < w.heap.size := by
    have := World.block_lt_of_cell? w _ (hcell 0 _ rfl)
    exact this
   have hcw : ∀ (j : Nat) (u : Value), o.cells[j]? = some u → wr.cell? ⟨g, off + k * 6 + j, none⟩ = some u := fun j u hj => by
    have h0 := hend.out k wr HR.out
    exact h0.cell' (hcell j u hj) (fun h => h)
   have x0 := hcw 0 _ rfl
   have x1 := hcw 1 _ rfl
   have x2 := hcw 2 _ rfl
   have x3 := hcw 3 _ rfl
   have x4 := hcw 4 _ rfl
   have x5 := hcw 5 _ rfl
   simp only [Nat.add_zero] at x0
   have xz : g < wr.heap.size := World.block_lt_of_cell? wr _ x0
   have HO : Hid (os[k]? = some o) := ho
   have hki := hok.kind
   unfold i64r at hki
   clear hcell hcw ho hok
   by_cases hkl : o.kind ≤ last
   ·have hst := h3.out k o wr HO.out hkl HR.out
    have hlk := fun (w3 : World) (R3 : Run os w w3 bw (k + 1)) => h4.out (k + 1) w3 hlt R3
    clear HR
    go_wp2_with fail
    refine hst.mono ?_
    rintro e3 w3 ⟨rfl, R3⟩
    have hlk' := hlk w3 R3
    have HR3 : Hid (Run os w w3 bw (k + 1)) := R3
    clear hst hlk R3 x0 x1 x2 x3 x4 x5
    go_wp2_with fail
    refine hlk'.mono ?_
    rintro e4 w4 ⟨rfl, k4⟩
    have HR4 : Hid (Run os w w4 bw (k + 1)) := h5r.out _ _ _ HR3.out k4
    clear hlk' k4 HR3
    go_wp2_with fail
    go_roundw
    case rel => exact ⟨rfl, k + 1, hlt, by go_num, HR4⟩
    case measure => simp [intOf]; omega
   ·have hR3 := h6r.out k o wr HO.out HR.out
    have hlk' := h4.out (k + 1) wr hlt hR3
    have HR3 : Hid (Run os w wr bw (k + 1)) := hR3
    clear HR hR3
    go_wp2_with fail
    refine hlk'.mono ?_
    rintro e4 w4 ⟨rfl, k4⟩
    have HR4 : Hid (Run os w w4 bw (k + 1)) := h5r.out _ _ _ HR3.out k4
    clear hlk' k4 HR3
    go_wp2_with fail
    go_roundw
    case rel => exact ⟨rfl, k + 1, hlt, by go_num, HR4⟩
    case measure => simp [intOf]; omega
  ·have hlt2 : ¬ (k : Int) < (os.length : Int) := by omega
   have HE : Hid _ := hend.out k wr HR.out
   clear HR
   go_wp2
   go_ret
   exact ⟨rfl, HE.out⟩
set_option maxHeartbeats 400000 in
theorem alone_any (os : List SOp) (a : Option Addr) (cap : Nat) (w : World) (hs : ScriptAt w a os) (hwt : wt os ≤ 1048576) :
  Calls Tryz.prog 3 #[.slice a os.length cap] w fun e' w' => e' = .returned (.bool true) ∧ Kept (fun _ => False) w w' := by
 have h := played_any 5 (by decide) (fun h => absurd h (by decide)) (fun h => absurd h (by decide)) os a cap w hs hwt
 go_enter Tryz.func3, Tryz.ntmps3
 go_wp2_with fail
 refine h.mono ?_
 rintro e' w' ⟨rfl, hk⟩
 have HK : Hid _ := hk
 clear h hk
 go_wp2
 go_ret
 exact ⟨rfl, HK.out⟩
end Go.Proofs.YtgfafbanahiigaaGreat
