import Derived.Test.YtgfafbanahiigaaGreatV8
import Derived.Test.YtgfafbanahiigaaGreatMB
import Derived.Test.YtgfafbanahiigaaGreatRK
import Derived.Test.YtgfafbanahiigaaGreatHD
set_option linter.unusedVariables false
set_option linter.unusedSimpArgs false
namespace Go.Proofs.YtgfafbanahiigaaGreat
open Go.RowKit Go.Chorus
set_option maxHeartbeats 400000 in
theorem belowNone_any (n : Int) (w : World) : Calls Tryz.prog 53 #[.int .i64 n] w fun e' w' => e' = .returned (.bool (decide (n < 0))) ∧ w' = w := by
 go_enter Tryz.func53, Tryz.ntmps53
 go_wp2
 go_ret
 exact ⟨rfl, rfl⟩
set_option maxHeartbeats 1000000 in
theorem intIndexFunc_none (l : List Nat) (a : Option Addr) (cp : Nat) (w : World) (he : l ≠ [] → ∃ g, a = some ⟨g, 0, none⟩ ∧ ∀ (i n : Nat), l[i]? = some n → w.cell? ⟨g, i, none⟩ = some (.int .i64 (n : Int))) (hn : l.length ≤ 4294967296) :
  Calls Tryz.prog 69 #[.slice a l.length cp, .func (.func 53) #[] #[]] w fun e' w' => e' = .returned (.int .i64 (-1)) ∧ w' = w := by
 go_enter Tryz.func69, Tryz.ntmps69
 go_wp2
 go_loopw [8] (fun i wr => ∃ k : Nat, k ≤ l.length ∧ i = .int .i64 k ∧ wr = w) (fun i _ => l.length - (intOf i).toNat)
 case atStart => exact ⟨0, Nat.zero_le _, rfl, rfl⟩
 case round =>
  obtain ⟨k, hk, rfl, hw⟩ := hrel
  subst hw
  by_cases hlt : k < l.length
  ·obtain ⟨m, hek⟩ : ∃ m, l[k]? = some m := ⟨_, List.getElem?_eq_getElem hlt⟩
   obtain ⟨g, rfl, heg⟩ := he (by intro h; rw [h] at hlt; simp at hlt)
   have c0 := heg k m hek
   have cz := World.block_lt_of_cell? wr _ c0
   have hm0 : ¬ (m : Int) < 0 := by omega
   have hmd : decide ((m : Int) < 0) = false := by rw [decide_eq_false_iff_not]; exact hm0
   clear hek heg
   go_wp2_with fail
   refine (belowNone_any m wr).mono ?_
   rintro e' w' ⟨rfl, rfl⟩
   go_wp2
   go_roundw
   case rel => exact ⟨k + 1, by omega, by go_num, trivial⟩
   case measure => simp [intOf]; omega
  ·go_wp2
   go_ret
   exact ⟨rfl, rfl⟩
set_option maxHeartbeats 1000000 in
theorem intContains_none (l : List Nat) (a : Option Addr) (cp : Nat) (w : World) (he : l ≠ [] → ∃ g, a = some ⟨g, 0, none⟩ ∧ ∀ (i n : Nat), l[i]? = some n → w.cell? ⟨g, i, none⟩ = some (.int .i64 (n : Int))) (hn : l.length ≤ 4294967296) :
  Calls Tryz.prog 52 #[.slice a l.length cp, .func (.func 53) #[] #[]] w fun e' w' => e' = .returned (.bool false) ∧ w' = w := by
 go_enter Tryz.func52, Tryz.ntmps52
 go_wp2_with fail
 refine (intIndexFunc_none l a cp w he hn).mono ?_
 rintro e' w' ⟨rfl, rfl⟩
 go_wp2
 go_ret
 exact ⟨rfl, rfl⟩
set_option maxHeartbeats 400000 in
theorem lLen_any (a : Option Addr) (n c : Nat) (w : World) : Calls Tryz.prog 133 #[.slice a n c] w fun e' w' => e' = .returned (.int .i64 n) ∧ w' = w := by
 go_enter Tryz.func133, Tryz.ntmps133
 go_wp2
 go_ret
 exact ⟨rfl, rfl⟩
def OpAt (w : World) (g o : Nat) (m : MOp) : Prop :=
 w.cell? ⟨g, o, none⟩ = some (.int .u8 m.o.kind) ∧ w.cell? ⟨g, o + 1, none⟩ = some (.int .u8 m.o.peer) ∧ w.cell? ⟨g, o + 2, none⟩ = some (.int .u32 m.o.num) ∧ w.cell? ⟨g, o + 3, none⟩ = some (.int .u32 m.o.clock) ∧
  w.cell? ⟨g, o + 4, none⟩ = some (.slice (some ⟨m.g, 0, none⟩) m.o.seen.length m.cap) ∧ w.cell? ⟨g, o + 5, none⟩ = some (.int .u32 m.o.nclock) ∧ w.cell? ⟨g, o + 6, none⟩ = some (.int .u8 m.o.npeer) ∧ w.cell? ⟨g, o + 7, none⟩ = some (.int .i32 m.o.char)
def opZero : Array Value := #[.int .u8 0, .int .u8 0, .int .u32 0, .int .u32 0, .slice none 0 0, .int .u32 0, .int .u8 0, .int .i32 0]
def MOp.arr (m : MOp) : Array Value := #[.int .u8 m.o.kind, .int .u8 m.o.peer, .int .u32 m.o.num, .int .u32 m.o.clock, .slice (some ⟨m.g, 0, none⟩) m.o.seen.length m.cap, .int .u32 m.o.nclock, .int .u8 m.o.npeer, .int .i32 m.o.char]
set_option maxHeartbeats 1000000 in
set_option maxRecDepth 100000 in
theorem lLess_any (g n c i j gi oi ni ci gj oj nj cj : Nat) (x y : MOp) (w : World) (hi : i < n) (hj : j < n) (hni : 0 < ni) (hnj : 0 < nj)
  (h1 : w.cell? ⟨g, i, none⟩ = some (.slice (some ⟨gi, oi, none⟩) ni ci)) (h2 : w.cell? ⟨g, j, none⟩ = some (.slice (some ⟨gj, oj, none⟩) nj cj)) (hx : OpAt w gi oi x) (hy : OpAt w gj oj y) :
  Calls Tryz.prog 134 #[.slice (some ⟨g, 0, none⟩) n c, .int .i64 i, .int .i64 j] w fun e' w' => e' = .returned (.bool (lessO x.o y.o)) ∧ Kept (fun _ => False) w w' := by
 obtain ⟨x0, x1, x2, x3, x4, x5, x6, x7⟩ := hx
 obtain ⟨y0, y1, y2, y3, y4, y5, y6, y7⟩ := hy
 have hii : (i : Int) < (n : Int) := by omega
 have hji : (j : Int) < (n : Int) := by omega
 have hn1 : (0 : Int) < (ni : Int) := by omega
 have hn2 : (0 : Int) < (nj : Int) := by omega
 go_enter Tryz.func134, Tryz.ntmps134
 go_wp2_with fail
 refine wp_region_pair (by kernel_rfl) _ 12 13 14 15 7 8 rfl (by kernel_rfl) (fun k => match k with
  | 0 => .slice (some ⟨g, 0, none⟩) n c
  | 1 => .int .i64 i
  | 2 => .pointer (some ⟨g, i, none⟩)
  | 3 => .slice (some ⟨gi, oi, none⟩) ni ci
  | 4 => .pointer (some ⟨gi, oi, none⟩)
  | 5 => .agg x.arr
  | 6 => .slice (some ⟨g, 0, none⟩) n c
  | 7 => .int .i64 j
  | 8 => .pointer (some ⟨g, j, none⟩)
  | 9 => .slice (some ⟨gj, oj, none⟩) nj cj
  | 10 => .pointer (some ⟨gj, oj, none⟩)
  | _ => .agg y.arr) 115 opZero x.arr y.arr ?_ ?_ ?_ ?_ ?_
 ·intro k o ho n1 n2 n3 n4 a wa up
  have hold : ∀ d : Nat, d < 3 → a.tmps[d]? = _ := fun d hd => up.old d (by
   intro q hq hqd
   simp only [List.mem_cons, List.not_mem_nil, or_false] at hq
   rcases hq with rfl | rfl | rfl | rfl | rfl | rfl | rfl | rfl | rfl | rfl | rfl | rfl | rfl | rfl | rfl | rfl <;> simp at hqd <;> omega)
  have o0 := hold 0 (by decide)
  have o1 := hold 1 (by decide)
  have o2 := hold 2 (by decide)
  simp at o0 o1 o2
  clear hold
  rcases k with _ | _ | _ | _ | _ | _ | _ | _ | _ | _ | _ | _ | _ | _ | _ | _ | k
  all_goals simp only [List.getElem?_cons_zero, List.getElem?_cons_succ, List.getElem?_nil, Option.some.injEq, reduceCtorEq] at ho
  all_goals first | (exact absurd rfl n1) | (exact absurd rfl n2) | (exact absurd rfl n3) | (exact absurd rfl n4) | skip
  all_goals subst ho
  ·simp [Oper.wp, go_sem, Act.eval, o0]
  ·simp [Oper.wp, go_sem, Act.eval, o1]
  ·have s0 := up.dep ⟨0, .data⟩ (by simp) rfl (by decide) (by decide) _ 9 rfl rfl
   have s1 := up.dep ⟨1, .data⟩ (by simp) rfl (by decide) (by decide) _ 10 rfl rfl
   simp only [] at s0 s1
   simp [Oper.wp, go_sem, Act.eval, s0, s1, hii]
  ·have s0 := up.dep ⟨2, .data⟩ (by simp) rfl (by decide) (by decide) _ 11 rfl rfl
   have c0 := up.kept.cell' h1 (fun h => h)
   simp only [] at s0
   simp [Oper.wp, go_sem, Act.eval, s0, c0]
  ·have s0 := up.dep ⟨3, .data⟩ (by simp) rfl (by decide) (by decide) _ 12 rfl rfl
   simp only [] at s0
   simp [Oper.wp, go_sem, Act.eval, s0, hni]
  ·have s0 := up.dep ⟨4, .data⟩ (by simp) rfl (by decide) (by decide) _ 13 rfl rfl
   have c0 := up.kept.cell' x0 (fun h => h)
   have c1 := up.kept.cell' x1 (fun h => h)
   have c2 := up.kept.cell' x2 (fun h => h)
   have c3 := up.kept.cell' x3 (fun h => h)
   have c4 := up.kept.cell' x4 (fun h => h)
   have c5 := up.kept.cell' x5 (fun h => h)
   have c6 := up.kept.cell' x6 (fun h => h)
   have c7 := up.kept.cell' x7 (fun h => h)
   simp only [] at s0
   simp [Oper.wp, go_sem, Act.eval, s0, c0, c1, c2, c3, c4, c5, c6, c7, MOp.arr]
  ·simp [Oper.wp, go_sem, Act.eval, o0]
  ·simp [Oper.wp, go_sem, Act.eval, o2]
  ·have s0 := up.dep ⟨6, .data⟩ (by simp) rfl (by decide) (by decide) _ 15 rfl rfl
   have s1 := up.dep ⟨7, .data⟩ (by simp) rfl (by decide) (by decide) _ 16 rfl rfl
   simp only [] at s0 s1
   simp [Oper.wp, go_sem, Act.eval, s0, s1, hji]
  ·have s0 := up.dep ⟨8, .data⟩ (by simp) rfl (by decide) (by decide) _ 17 rfl rfl
   have c0 := up.kept.cell' h2 (fun h => h)
   simp only [] at s0
   simp [Oper.wp, go_sem, Act.eval, s0, c0]
  ·have s0 := up.dep ⟨9, .data⟩ (by simp) rfl (by decide) (by decide) _ 18 rfl rfl
   simp only [] at s0
   simp [Oper.wp, go_sem, Act.eval, s0, hnj]
  ·have s0 := up.dep ⟨10, .data⟩ (by simp) rfl (by decide) (by decide) _ 19 rfl rfl
   have c0 := up.kept.cell' y0 (fun h => h)
   have c1 := up.kept.cell' y1 (fun h => h)
   have c2 := up.kept.cell' y2 (fun h => h)
   have c3 := up.kept.cell' y3 (fun h => h)
   have c4 := up.kept.cell' y4 (fun h => h)
   have c5 := up.kept.cell' y5 (fun h => h)
   have c6 := up.kept.cell' y6 (fun h => h)
   have c7 := up.kept.cell' y7 (fun h => h)
   simp only [] at s0
   simp [Oper.wp, go_sem, Act.eval, s0, c0, c1, c2, c3, c4, c5, c6, c7, MOp.arr]
 ·intro k o ho hk a wa
  rcases hk with rfl | rfl
  all_goals
   simp only [List.getElem?_cons_zero, List.getElem?_cons_succ, Option.some.injEq] at ho
   subst ho
   simp [Oper.wp, go_sem, Act.eval, opZero]
 ·intro o ho a wa b up hb hbz
  simp only [List.getElem?_cons_zero, List.getElem?_cons_succ, Option.some.injEq] at ho
  subst ho
  have s0 := up.dep ⟨5, .data⟩ (by simp) rfl (by decide) (by decide) _ 14 rfl rfl
  simp only [] at s0
  have hst := run_storeCells_from (P := Tryz.prog) b 115 x.arr.toList 0 opZero wa hbz (by rfl) (op_oneCell x)
  have hsz : x.arr.size = 8 := rfl
  have hrow : ([] ++ x.arr.toList).toArray = x.arr := by simp
  rw [List.take_zero, hrow] at hst
  simp [Oper.wp, go_sem, Act.eval, s0, hb, hsz]
  rw [hst]
  simp only [Result.andThen, Oper.upon_skip]
  exact ⟨rfl, kept_setRow (S := fun x => x = b) (Kept.refl _ wa) (fun _ => rfl) _, heap_setRow hbz⟩
 ·intro o ho a wa b up hb hbz
  simp only [List.getElem?_cons_zero, List.getElem?_cons_succ, Option.some.injEq] at ho
  subst ho
  have s0 := up.dep ⟨11, .data⟩ (by simp) rfl (by decide) (by decide) _ 20 rfl rfl
  simp only [] at s0
  have hst := run_storeCells_from (P := Tryz.prog) b 115 y.arr.toList 0 opZero wa hbz (by rfl) (op_oneCell y)
  have hsz : y.arr.size = 8 := rfl
  have hrow : ([] ++ y.arr.toList).toArray = y.arr := by simp
  rw [List.take_zero, hrow] at hst
  simp [Oper.wp, go_sem, Act.eval, s0, hb, hsz]
  rw [hst]
  simp only [Result.andThen, Oper.upon_skip]
  exact ⟨rfl, kept_setRow (S := fun x => x = b) (Kept.refl _ wa) (fun _ => rfl) _, heap_setRow hbz⟩
 ·intro wa b1 b2 hk hne hb1 hb2 hB1 hB2
  have hK : Kept (fun _ => False) w wa := ((Kept.refl _ w).drew).trans' hk
  have p1 : wa.cell? ⟨b1, 1, none⟩ = some (.int .u8 x.o.peer) := by rw [Lib.cell_of_heap hB1]; rfl
  have p3 : wa.cell? ⟨b1, 3, none⟩ = some (.int .u32 x.o.clock) := by rw [Lib.cell_of_heap hB1]; rfl
  have q1 : wa.cell? ⟨b2, 1, none⟩ = some (.int .u8 y.o.peer) := by rw [Lib.cell_of_heap hB2]; rfl
  have q3 : wa.cell? ⟨b2, 3, none⟩ = some (.int .u32 y.o.clock) := by rw [Lib.cell_of_heap hB2]; rfl
  have z1 := lt_of_heap hB1
  have z2 := lt_of_heap hB2
  clear hB1 hB2 x0 x1 x2 x3 x4 x5 x6 x7 y0 y1 y2 y3 y4 y5 y6 y7 h1 h2 hk
  simp only [putAll, Act.put]
  by_cases hcl : x.o.clock = y.o.clock
  ·have e1 : ((x.o.clock : Int) == (y.o.clock : Int)) = true := by rw [beq_iff_eq]; omega
   go_wp2
   go_ret
   refine ⟨?_, hK⟩
   show Ending.returned (.bool (decide (x.o.peer < y.o.peer))) = _
   unfold lessO
   simp [hcl]
  ·have e1 : ((x.o.clock : Int) == (y.o.clock : Int)) = false := by rw [beq_eq_false_iff_ne]; omega
   go_wp2
   go_ret
   refine ⟨?_, hK⟩
   show Ending.returned (.bool (decide (x.o.clock < y.o.clock))) = _
   unfold lessO
   simp [hcl]
structure Ln where
 g : Nat
 off : Nat
 cap : Nat
 ms : List MOp
def Ln.val (l : Ln) : Value := .slice (some ⟨l.g, l.off, none⟩) l.ms.length l.cap
def Ln.ops (l : Ln) : List Ope := l.ms.map MOp.o
structure LnAt (w : World) (l : Ln) : Prop where
 ne : l.ms ≠ []
 room : l.ms.length ≤ l.cap
 at_ : ∃ cur, w.heap[l.g]? = some (.cells cur 115 (0, 0)) ∧ ∀ (i : Nat) (m : MOp), l.ms[i]? = some m → ∀ (j : Nat) (u : Value), m.cells[j]? = some u → cur[l.off + i * 8 + j]? = some u
theorem LnAt.keep {S : Nat → Prop} {w w' : World} {l : Ln} (h : LnAt w l) (k : Kept S w w') (hS : ¬ S l.g) : LnAt w' l := by
 obtain ⟨cur, a, b⟩ := h.at_
 exact ⟨h.ne, h.room, cur, k.heap a hS, b⟩
theorem LnAt.op {w : World} {l : Ln} (h : LnAt w l) (i : Nat) (m : MOp) (hi : l.ms[i]? = some m) : OpAt w l.g (l.off + i * 8) m := by
 obtain ⟨cur, a, b⟩ := h.at_
 have key : ∀ (j : Nat) (u : Value), m.cells[j]? = some u → w.cell? ⟨l.g, l.off + i * 8 + j, none⟩ = some u := fun j u hu => by rw [Lib.cell_of_heap a]; exact b i m hi j u hu
 exact ⟨key 0 _ rfl, key 1 _ rfl, key 2 _ rfl, key 3 _ rfl, key 4 _ rfl, key 5 _ rfl, key 6 _ rfl, key 7 _ rfl⟩
theorem Ln.ops_ne {w : World} {l : Ln} (h : LnAt w l) : l.ops ≠ [] := by
 unfold Ln.ops
 intro e
 exact h.ne (List.map_eq_nil_iff.1 e)
structure HpAt (w : World) (bl : Nat) (v : Value) (hs : List Ln) : Prop where
 box : w.heap[bl]? = some (.cells #[v] 136 (0, 0))
 row : w.ownsRow 0 139 1 v hs.length (hs.map Ln.val)
 lines : ∀ l ∈ hs, LnAt w l
def HpF (bl : Nat) (v : Value) (b : Nat) : Prop := b = bl ∨ v.ownBlock = some b
theorem HpAt.keep {S : Nat → Prop} {w w' : World} {bl : Nat} {v : Value} {hs : List Ln} (h : HpAt w bl v hs) (k : Kept S w w') (h1 : ∀ b, HpF bl v b → ¬ S b) (h2 : ∀ l ∈ hs, ¬ S l.g) : HpAt w' bl v hs :=
 ⟨k.heap h.box (h1 _ (Or.inl rfl)), ownsRow_kept h.row k (fun b hb => h1 b (Or.inr hb)), fun l hl => (h.lines l hl).keep k (h2 l hl)⟩
theorem HpAt.quiet {w w' : World} {bl : Nat} {v : Value} {hs : List Ln} (h : HpAt w bl v hs) (k : Kept (fun _ => False) w w') : HpAt w' bl v hs := h.keep k (fun _ _ h => h) (fun _ _ h => h)
theorem HpAt.cell {w : World} {bl : Nat} {v : Value} {hs : List Ln} (h : HpAt w bl v hs) : w.cell? ⟨bl, 0, none⟩ = some v := by rw [Lib.cell_of_heap h.box]; rfl
theorem HpAt.block {w : World} {bl : Nat} {v : Value} {hs : List Ln} (h : HpAt w bl v hs) (hn : hs ≠ []) : ∃ g cap cur, v = .slice (some ⟨g, 0, none⟩) hs.length cap ∧ w.heap[g]? = some (.cells cur 139 (0, 0)) ∧ g ≠ bl ∧ ∀ (i : Nat) (l : Ln), hs[i]? = some l → cur[i]? = some l.val := by
 rcases h.row.2 with ⟨_, h0⟩ | ⟨g, cap, cur, rfl, _, hg, hnc, hm, hsz, htk⟩
 ·exact absurd (List.length_eq_zero_iff.1 h0) hn
 ·refine ⟨g, cap, cur, rfl, hg, fun e => ?_, fun i l hi => ?_⟩
  ·rw [e, h.box] at hg; simp at hg
  ·have hil := (List.getElem?_eq_some_iff.1 hi).1
   have h1 : (hs.map Ln.val)[i]? = some l.val := by rw [List.getElem?_map, hi]; rfl
   rw [← htk, List.getElem?_take, if_pos (by omega)] at h1
   rw [← Array.getElem?_toList]; exact h1
theorem meth_push (p : Value) (w : World) : (method 295 138 p "Push").run Tryz.prog w = .ok (137, p) w := by kernel_rfl
theorem meth_pop (p : Value) (w : World) : (method 295 138 p "Pop").run Tryz.prog w = .ok (136, p) w := by kernel_rfl
theorem meth_len (bl : Nat) (v : Value) (w : World) (h : w.cell? ⟨bl, 0, none⟩ = some v) : (method 295 138 (.pointer (some ⟨bl, 0, none⟩)) "Len").run Tryz.prog w = .ok (133, v) w := by
 have h1 : (method 295 138 (.pointer (some ⟨bl, 0, none⟩)) "Len").run Tryz.prog w = (do let x ← loadVar 136 ⟨bl, 0, none⟩; pure (133, x) : Sem (FuncId × Value)).run Tryz.prog w := by kernel_rfl
 rw [h1]
 simp [go_sem, h]
theorem meth_less (bl : Nat) (v : Value) (w : World) (h : w.cell? ⟨bl, 0, none⟩ = some v) : (method 295 138 (.pointer (some ⟨bl, 0, none⟩)) "Less").run Tryz.prog w = .ok (134, v) w := by
 have h1 : (method 295 138 (.pointer (some ⟨bl, 0, none⟩)) "Less").run Tryz.prog w = (do let x ← loadVar 136 ⟨bl, 0, none⟩; pure (134, x) : Sem (FuncId × Value)).run Tryz.prog w := by kernel_rfl
 rw [h1]
 simp [go_sem, h]
theorem meth_swap (bl : Nat) (v : Value) (w : World) (h : w.cell? ⟨bl, 0, none⟩ = some v) : (method 295 138 (.pointer (some ⟨bl, 0, none⟩)) "Swap").run Tryz.prog w = .ok (135, v) w := by
 have h1 : (method 295 138 (.pointer (some ⟨bl, 0, none⟩)) "Swap").run Tryz.prog w = (do let x ← loadVar 136 ⟨bl, 0, none⟩; pure (135, x) : Sem (FuncId × Value)).run Tryz.prog w := by kernel_rfl
 rw [h1]
 simp [go_sem, h]
theorem hp_less {w : World} {bl : Nat} {v : Value} {hs : List Ln} (h : HpAt w bl v hs) (i j : Nat) (x y : Ln) (hi : hs[i]? = some x) (hj : hs[j]? = some y) :
  Calls Tryz.prog 134 #[v, .int .i64 i, .int .i64 j] w fun e' w' => e' = .returned (.bool (lessA Ln.ops x y)) ∧ Kept (fun _ => False) w w' := by
 have hil := (List.getElem?_eq_some_iff.1 hi).1
 have hjl := (List.getElem?_eq_some_iff.1 hj).1
 obtain ⟨g, cap, cur, rfl, hg, _, hc⟩ := h.block (fun e => by rw [e] at hil; simp at hil)
 have hx := h.lines x (List.mem_of_getElem? hi)
 have hy := h.lines y (List.mem_of_getElem? hj)
 obtain ⟨mx, tx, ex⟩ := List.exists_cons_of_ne_nil hx.ne
 obtain ⟨my, ty, ey⟩ := List.exists_cons_of_ne_nil hy.ne
 have h1 : w.cell? ⟨g, i, none⟩ = some x.val := by rw [Lib.cell_of_heap hg]; exact hc i x hi
 have h2 : w.cell? ⟨g, j, none⟩ = some y.val := by rw [Lib.cell_of_heap hg]; exact hc j y hj
 have ox := hx.op 0 mx (by rw [ex]; rfl)
 have oy := hy.op 0 my (by rw [ey]; rfl)
 simp only [Nat.zero_mul, Nat.add_zero] at ox oy
 refine (lLess_any g hs.length cap i j x.g x.off x.ms.length x.cap y.g y.off y.ms.length y.cap mx my w hil hjl (by rw [ex]; simp) (by rw [ey]; simp) h1 h2 ox oy).mono ?_
 rintro e' w' ⟨rfl, hk⟩
 refine ⟨?_, hk⟩
 unfold lessA Ln.ops
 rw [ex, ey]
 rfl
def swapL (hs : List Ln) (i j : Nat) (x y : Ln) : List Ln := (hs.set i y).set j x
set_option maxHeartbeats 1000000 in
set_option maxRecDepth 100000 in
theorem lSwap_raw (g n c i j : Nat) (x y : Value) (cur : Array Value) (w : World) (hi : i < n) (hj : j < n) (hg : w.heap[g]? = some (.cells cur 139 (0, 0))) (hx : cur[i]? = some x) (hy : cur[j]? = some y)
  (sx : ∃ a k d, x = .slice a k d) (sy : ∃ a k d, y = .slice a k d) :
  Calls Tryz.prog 135 #[.slice (some ⟨g, 0, none⟩) n c, .int .i64 i, .int .i64 j] w fun e' w' => e' = .returned (.tuple #[]) ∧ w' = ((w.drew.setCell ⟨g, i, none⟩ y).setCell ⟨g, j, none⟩ x) := by
 have hii : (i : Int) < (n : Int) := by omega
 have hji : (j : Int) < (n : Int) := by omega
 have cx : w.drew.cell? ⟨g, i, none⟩ = some x := by rw [show w.drew.cell? ⟨g, i, none⟩ = w.cell? ⟨g, i, none⟩ from rfl, Lib.cell_of_heap hg]; exact hx
 have cy : w.drew.cell? ⟨g, j, none⟩ = some y := by rw [show w.drew.cell? ⟨g, j, none⟩ = w.cell? ⟨g, j, none⟩ from rfl, Lib.cell_of_heap hg]; exact hy
 have fz : ∀ k, w.drew.frozen? ⟨g, k, none⟩ = false := fun k => Lib.frozen_of_heap (w := w.drew) hg k
 obtain ⟨ax, kx, dx, rfl⟩ := sx
 obtain ⟨ay, ky, dy, rfl⟩ := sy
 have hg2 := heap_set_same (w := w.drew) hg i (.slice ay ky dy)
 have hjs : j < cur.size := (Array.getElem?_eq_some_iff.1 hy).1
 obtain ⟨u, cu⟩ : ∃ u, (w.drew.setCell ⟨g, i, none⟩ (.slice ay ky dy)).cell? ⟨g, j, none⟩ = some u := by
  rw [Lib.cell_of_heap hg2]
  exact ⟨_, Array.getElem?_eq_getElem (by simpa using hjs)⟩
 have fz2 : ∀ k, (w.drew.setCell ⟨g, i, none⟩ (.slice ay ky dy)).frozen? ⟨g, k, none⟩ = false := Lib.frozen_of_heap hg2
 go_enter Tryz.func135, Tryz.ntmps135
 go_wp2_with fail
 refine wp_region_stores (by kernel_rfl) _ 13 15 rfl (by kernel_rfl) (fun k => match k with
  | 0 => .slice (some ⟨g, 0, none⟩) n c
  | 1 => .int .i64 i
  | 2 => .slice (some ⟨g, 0, none⟩) n c
  | 3 => .int .i64 j
  | 4 => .slice (some ⟨g, 0, none⟩) n c
  | 5 => .int .i64 j
  | 6 => .pointer (some ⟨g, j, none⟩)
  | 7 => .slice ay ky dy
  | 8 => .slice (some ⟨g, 0, none⟩) n c
  | 9 => .int .i64 i
  | 10 => .pointer (some ⟨g, i, none⟩)
  | 11 => .slice ax kx dx
  | 12 => .pointer (some ⟨g, i, none⟩)
  | _ => .pointer (some ⟨g, j, none⟩)) (w.drew.setCell ⟨g, i, none⟩ (.slice ay ky dy)) ((w.drew.setCell ⟨g, i, none⟩ (.slice ay ky dy)).setCell ⟨g, j, none⟩ (.slice ax kx dx)) ?_ ?_ ?_ ?_
 ·intro k o ho n3 n4 a up W hW
  have hold : ∀ d : Nat, d < 3 → a.tmps[d]? = _ := fun d hd => up.old d (by
   intro q hq hqd
   simp only [List.mem_cons, List.not_mem_nil, or_false] at hq
   rcases hq with rfl | rfl | rfl | rfl | rfl | rfl | rfl | rfl | rfl | rfl | rfl | rfl | rfl | rfl | rfl | rfl <;> simp at hqd <;> omega)
  have o0 := hold 0 (by decide)
  have o1 := hold 1 (by decide)
  have o2 := hold 2 (by decide)
  simp at o0 o1 o2
  clear hold
  rcases k with _ | _ | _ | _ | _ | _ | _ | _ | _ | _ | _ | _ | _ | _ | _ | _ | k
  all_goals simp only [List.getElem?_cons_zero, List.getElem?_cons_succ, List.getElem?_nil, Option.some.injEq, reduceCtorEq] at ho
  all_goals first | (exact absurd rfl n3) | (exact absurd rfl n4) | skip
  all_goals subst ho
  ·simp [Oper.wp, go_sem, Act.eval, o0]
  ·simp [Oper.wp, go_sem, Act.eval, o1]
  ·simp [Oper.wp, go_sem, Act.eval, o0]
  ·simp [Oper.wp, go_sem, Act.eval, o2]
  ·simp [Oper.wp, go_sem, Act.eval, o0]
  ·simp [Oper.wp, go_sem, Act.eval, o2]
  ·have s0 := up.dep ⟨4, .data⟩ (by simp) rfl _ 10 rfl rfl
   have s1 := up.dep ⟨5, .data⟩ (by simp) rfl _ 11 rfl rfl
   simp only [] at s0 s1
   simp [Oper.wp, go_sem, Act.eval, s0, s1, hji]
  ·have s0 := up.dep ⟨6, .data⟩ (by simp) rfl _ 12 rfl rfl
   simp only [] at s0
   rcases hW with rfl | ⟨_, hh⟩ | ⟨_, hh⟩
   ·simp [Oper.wp, go_sem, Act.eval, s0, cy]
   ·exact absurd (Eq.trans hh.symm (by kernel_rfl) : false = true) (by decide)
   ·exact absurd (Eq.trans hh.symm (by kernel_rfl) : false = true) (by decide)
  ·simp [Oper.wp, go_sem, Act.eval, o0]
  ·simp [Oper.wp, go_sem, Act.eval, o1]
  ·have s0 := up.dep ⟨8, .data⟩ (by simp) rfl _ 14 rfl rfl
   have s1 := up.dep ⟨9, .data⟩ (by simp) rfl _ 15 rfl rfl
   simp only [] at s0 s1
   simp [Oper.wp, go_sem, Act.eval, s0, s1, hii]
  ·have s0 := up.dep ⟨10, .data⟩ (by simp) rfl _ 16 rfl rfl
   simp only [] at s0
   rcases hW with rfl | ⟨_, hh⟩ | ⟨_, hh⟩
   ·simp [Oper.wp, go_sem, Act.eval, s0, cx]
   ·exact absurd (Eq.trans hh.symm (by kernel_rfl) : false = true) (by decide)
   ·exact absurd (Eq.trans hh.symm (by kernel_rfl) : false = true) (by decide)
  ·have s0 := up.dep ⟨0, .data⟩ (by simp) rfl _ 6 rfl rfl
   have s1 := up.dep ⟨1, .data⟩ (by simp) rfl _ 7 rfl rfl
   simp only [] at s0 s1
   simp [Oper.wp, go_sem, Act.eval, s0, s1, hii]
  ·have s0 := up.dep ⟨2, .data⟩ (by simp) rfl _ 8 rfl rfl
   have s1 := up.dep ⟨3, .data⟩ (by simp) rfl _ 9 rfl rfl
   simp only [] at s0 s1
   simp [Oper.wp, go_sem, Act.eval, s0, s1, hji]
 ·intro o ho a up
  simp only [List.getElem?_cons_zero, List.getElem?_cons_succ, Option.some.injEq] at ho
  subst ho
  have s0 := up.dep ⟨12, .data⟩ (by simp) rfl _ 18 rfl rfl
  have s1 := up.dep ⟨7, .data⟩ (by simp) rfl _ 13 rfl rfl
  simp only [] at s0 s1
  simp [Oper.wp, go_sem, Act.eval, s0, s1, cx, fz]
 ·intro o ho a up
  simp only [List.getElem?_cons_zero, List.getElem?_cons_succ, Option.some.injEq] at ho
  subst ho
  have s0 := up.dep ⟨14, .data⟩ (by simp) rfl _ 19 rfl rfl
  have s1 := up.dep ⟨11, .data⟩ (by simp) rfl _ 17 rfl rfl
  simp only [] at s0 s1
  have cu' : (w.setCell ⟨g, i, none⟩ (.slice ay ky dy)).cell? ⟨g, j, none⟩ = some u := cu
  have fw : w.frozen? ⟨g, j, none⟩ = false := Lib.frozen_of_heap hg j
  simp [Oper.wp, go_sem, Act.eval, s0, s1, cu', fw]
 ·simp only [putAll, Act.put]
  go_wp2
  go_end0
  exact ⟨rfl, rfl⟩
end Go.Proofs.YtgfafbanahiigaaGreat
