import Derived.Deep.CutBlock
import Derived.Test.YtgfafbanahiigaaGreatN12i
import Derived.Test.YtgfafbanahiigaaGreatN12d
import Derived.Test.YtgfafbanahiigaaGreatNG
import Derived.Test.YtgfafbanahiigaaGreatRK
import Derived.Test.YtgfafbanahiigaaGreatNH
import Derived.Test.YtgfafbanahiigaaGreatLG
import Derived.Test.YtgfafbanahiigaaGreatV13
set_option linter.unusedVariables false
set_option linter.unusedSimpArgs false
namespace Go.Proofs.YtgfafbanahiigaaGreat
open Go.RowKit Go.Chorus
theorem readBE_four_lt : ∀ l : List UInt8, l.length ≤ 4 → readBE l < 4294967296
 | [], _ => by decide
 | [a], _ => by have := a.toNat_lt; simp [readBE]; omega
 | [a, b], _ => by have := a.toNat_lt; have := b.toNat_lt; simp [readBE]; omega
 | [a, b, c], _ => by have := a.toNat_lt; have := b.toNat_lt; have := c.toNat_lt; simp [readBE]; omega
 | [a, b, c, d], _ => readBE_lt a b c d
 | _ :: _ :: _ :: _ :: _ :: r, h => by simp at h
theorem rd4_lt_any (l : List UInt8) (i : Nat) : rd4 l i < 4294967296 := readBE_four_lt _ (by rw [List.length_take]; omega)
theorem sn_fields (N : Nat) (l : List UInt8) (j : Nat) (hj : j < N) : sn (fieldsOf N l) j = rd4 l (10 + 4 * j) := by
 show ((List.range N).map fun i => rd4 l (10 + 4 * i)).getD j 0 = _
 rw [List.getD_eq_getElem?_getD, List.getElem?_map, List.getElem?_range hj]
 rfl
theorem rdok_right (l : List UInt8) (N : Nat) (ins : Bool) (h0 : rd1 l 0 = if ins then 1 else 2) (hs : shapeOk N l) : RdOk N l.length ins (rd4 l) (rd1 l) (sumFrom (l.take (l.length - 4)) 0) ↔ Right N l := by
 have hi : (fieldsOf N l).ins = ins := by
  show decide (rd1 l 0 = 1) = ins
  rw [h0]; cases ins <;> rfl
 have hc : ins = true → (fieldsOf N l).char = rd4 l (15 + 4 * N) := fun h => by
  show (if rd1 l 0 = 1 then _ else _) = _
  rw [h0, h]; rfl
 constructor
 ·rintro ⟨h1, h2, h3, h4, h5, h6, h7, h8⟩
  exact ⟨hs, h1, h2, h3, by show sn (fieldsOf N l) (rd1 l 1) + 1 = _; rw [sn_fields N l _ h1]; exact h4, h5, fun h => by rw [hi]; exact h6 h, fun h => by rw [hi] at h; rw [hc h]; exact h7 h, h8⟩
 ·intro r
  refine ⟨r.peer, r.num, r.clock, ?_, r.npeer, fun h => ?_, fun h => ?_, r.sum⟩
  ·have := r.own
   rw [sn_fields N l _ r.peer] at this
   exact this
  ·have := r.begin_ h
   rw [hi] at this
   exact this
  ·have := r.char (by rw [hi]; exact h)
   rw [hc h] at this
   exact this
def ReadAny (N : Nat) (l : List UInt8) (w : World) (e' : Ending) (w' : World) : Prop :=
 (¬ Right N l ∧ ReadNo w e' w') ∨ (Right N l ∧ Kept (fun _ => False) w w' ∧ ∃ sv, e' = .returned (.tuple #[.agg (opCells (fieldsOf N l, sv)).toArray, .bool true]) ∧ RSeenAt w' (fun b => w.heap.size ≤ b) sv (fieldsOf N l).seen)
theorem readAny_of {N : Nat} {l : List UInt8} {w : World} (hN : N ≤ 8) (ins : Bool) (h0 : rd1 l 0 = if ins then 1 else 2) (hs : shapeOk N l) {e' : Ending} {w' : World} (h : RdPost ⟨l.toArray⟩ N l.length ins (rd4 l) (rd1 l) (sumFrom (l.take (l.length - 4)) 0) w e' w') : ReadAny N l w e' w' := by
 rcases h with ⟨h1, h2⟩ | ⟨h1, hk, g, cp, cur, h3, h4, h5, h6⟩
 ·exact Or.inl ⟨fun r => h2 ((rdok_right l N ins h0 hs).2 r), h1⟩
 ·have r := (rdok_right l N ins h0 hs).1 h1
  have hi : (fieldsOf N l).ins = ins := by
   show decide (rd1 l 0 = 1) = ins
   rw [h0]; cases ins <;> rfl
  have hlen : (fieldsOf N l).seen.length = N := by show ((List.range N).map _).length = N; simp
  refine Or.inr ⟨r, hk, .slice (some ⟨g, 0, none⟩) N cp, ?_, g, cp, cur, by rw [hlen], h6, h4, fun i n hi' => ?_⟩
  ·rw [h3]
   have hp := (r.packet hN).1
   have hch : (fieldsOf N l).char = if ins then rd4 l (15 + 4 * N) else 0 := by
    show (if rd1 l 0 = 1 then _ else _) = _
    rw [h0]; cases ins <;> rfl
   have e1 : (opCells (fieldsOf N l, .slice (some ⟨g, 0, none⟩) N cp)).toArray = rdBox ins (rd1 l 1) (rd4 l 2) (rd4 l 6) (.slice (some ⟨g, 0, none⟩) N cp) (rd4 l (10 + 4 * N)) (rd1 l (14 + 4 * N)) (if ins then rd4 l (15 + 4 * N) else 0) ⟨l.toArray⟩ := by
    unfold opCells rdBox
    simp only
    rw [← hp, hi, hch]
    rfl
   rw [e1]
  ·have hi2 : ((List.range N).map fun i => rd4 l (10 + 4 * i))[i]? = some n := hi'
   have hil : i < N := by
    have := (List.getElem?_eq_some_iff.1 hi2).1
    simpa using this
   rw [List.getElem?_map, List.getElem?_range hil] at hi2
   have e : n = rd4 l (10 + 4 * i) := by simpa using hi2.symm
   rw [e]
   exact h5 i hil
theorem rRead_any (l : List UInt8) (N : Nat) (w : World) (hN1 : 1 ≤ N) (hN : N ≤ 8) :
  Calls Tryz.prog 66 #[.string ⟨l.toArray⟩, .int .i64 N] w (ReadAny N l w) := by
 by_cases hs : shapeOk N l
 ·have hsm : sumFrom ((⟨l.toArray⟩ : ByteArray).extract 0 (l.length - 4)).data.toList 0 = sumFrom (l.take (l.length - 4)) 0 := by
   rw [ByteArray.data_extract]; simp
  rcases hs with ⟨h0, h1⟩ | ⟨h0, h1⟩
  ·exact (rRead_ins ⟨l.toArray⟩ N l.length (rd4 l) (rd1 l) _ w hN1 hN rfl h1 (rd1_lt l) (rd4_lt_any l) (fun k hk w => str_index l k hk w) h0 (fun i _ => extract_rd4 l i) hsm).mono (fun e' w' h => readAny_of hN true h0 (Or.inl ⟨h0, h1⟩) h)
  ·exact (rRead_del ⟨l.toArray⟩ N l.length (rd4 l) (rd1 l) _ w hN1 hN rfl h1 (rd1_lt l) (rd4_lt_any l) (fun k hk w => str_index l k hk w) h0 (fun i _ => extract_rd4 l i) hsm).mono (fun e' w' h => readAny_of hN false h0 (Or.inr ⟨h0, h1⟩) h)
 ·refine (rRead_bad l N w hN hs).mono ?_
  rintro e' w' ⟨hk, rfl⟩
  exact Or.inl ⟨fun r => hs r.size, readNo_zero hk⟩
def WaitsPost (s : RSt) (o : Ope) (w : World) (e' : Ending) (w' : World) : Prop := ∃ b : Bool, e' = .returned (.bool b) ∧ (b = true ↔ ∃ q ∈ s.pr.held, q.peer = o.peer ∧ q.num = o.num) ∧ Kept (fun _ => False) w w'
set_option maxHeartbeats 2000000 in
set_option maxRecDepth 100000 in
theorem rwaits_any {w : World} {F : Nat → Prop} {bp : Nat} {s : RSt} {rv : Value} {bo : Nat} {vs : List Value} {hv : Value} (h : RefAt w F bp s rv bo vs hv) (o : Ope) (g cpo : Nat) (pk : ByteArray) (hhl : s.held.length ≤ 65536) :
  Calls Tryz.prog 67 #[.pointer (some ⟨bp, 0, none⟩), .agg #[.bool o.ins, .int .i64 o.peer, .int .i64 o.num, .int .i64 o.clock, .slice (some ⟨g, 0, none⟩) o.seen.length cpo, .int .i64 o.nclock, .int .i64 o.npeer, .int .i64 o.char, .string pk]] w (WaitsPost s o w) := by
 obtain ⟨c0, c1, c2, c3, c4, c5⟩ := h.cells
 have bz := lt_of_heap h.block
 obtain ⟨a, cp, hve, _, _, ha0, ha1⟩ := rops_of_own h.heldAt
 subst hve
 have HPH : Hid (∀ q, q ∈ s.pr.held ↔ ∃ x ∈ s.held, x.1 = q) := fun q => by
  show q ∈ s.held.map Prod.fst ↔ _
  rw [List.mem_map]
 clear h c0 c1 c2 c3 c4
 obtain ⟨W, hWe⟩ : ∃ W, W = w.alloc (.cells #[.bool o.ins, .int .i64 o.peer, .int .i64 o.num, .int .i64 o.clock, .slice (some ⟨g, 0, none⟩) o.seen.length cpo, .int .i64 o.nclock, .int .i64 o.npeer, .int .i64 o.char, .string pk] 119) := ⟨_, rfl⟩
 have hW : Kept (fun _ => False) w W := by rw [hWe]; exact (Kept.refl _ _).alloc _
 have hbox : W.heap[w.heap.size]? = some (.cells #[.bool o.ins, .int .i64 o.peer, .int .i64 o.num, .int .i64 o.clock, .slice (some ⟨g, 0, none⟩) o.seen.length cpo, .int .i64 o.nclock, .int .i64 o.npeer, .int .i64 o.char, .string pk] 119 (0, 0)) := by rw [hWe]; exact heap_alloc_new w _
 go_enter Tryz.func67, Tryz.ntmps67
 go_wp2
 rw [← hWe]
 clear hWe
 go_loopw [5] (fun i wr => ∃ k : Nat, k ≤ s.held.length ∧ i = .int .i64 k ∧ Kept (fun _ => False) W wr ∧ Hid (∀ (j : Nat) (q : OpeV), j < k → s.held[j]? = some q → ¬ (q.1.peer = o.peer ∧ q.1.num = o.num))) (fun i _ => s.held.length - (intOf i).toNat)
 case atStart => exact ⟨0, Nat.zero_le _, rfl, Kept.refl _ _, fun j q hj => absurd hj (Nat.not_lt_zero _)⟩
 case round =>
  obtain ⟨k, hk, rfl, hkp, hc⟩ := hrel
  have hkw := hW.trans' hkp
  have d5 := hkw.cell' c5 (fun h => h)
  have hbz : bp < wr.heap.size := World.block_lt_of_cell? wr _ d5
  have hb1 := hkp.heap hbox (fun h => h)
  have b1 : wr.cell? ⟨w.heap.size, 1, none⟩ = some (.int .i64 o.peer) := by rw [Lib.cell_of_heap hb1]; rfl
  have b2 : wr.cell? ⟨w.heap.size, 2, none⟩ = some (.int .i64 o.num) := by rw [Lib.cell_of_heap hb1]; rfl
  have hxz := lt_of_heap hb1
  have HK : Hid (Kept (fun _ => False) w wr) := hkw
  have HK1 : Hid (Kept (fun _ => False) W wr) := hkp
  by_cases hlt : k < s.held.length
  ·obtain ⟨q, hq⟩ : ∃ q, s.held[k]? = some q := ⟨_, List.getElem?_eq_getElem hlt⟩
   obtain ⟨gh, rfl, hcell⟩ : ∃ g, a = some ⟨g, 0, none⟩ ∧ ROpsAt w g s.held := by
    cases a with
    | none => exfalso; rw [ha0 rfl] at hlt; simp at hlt
    | some ad => obtain ⟨g, rfl, hh⟩ := ha1 ad rfl; exact ⟨g, rfl, hh⟩
   have hcw := hcell.kept hkw (fun h => h)
   have x1 := hcw k q hq 1 _ rfl
   have x2 := hcw k q hq 2 _ rfl
   have xz : gh < wr.heap.size := World.block_lt_of_cell? wr _ x1
   have hki : (k : Int) < (s.held.length : Int) := by omega
   have HQ : Hid (s.held[k]? = some q) := hq
   obtain ⟨a1, HA1⟩ : ∃ e : Bool, Hid (e = ((q.1.peer : Int) == (o.peer : Int))) := ⟨_, rfl⟩
   obtain ⟨a2, HA2⟩ : ∃ e : Bool, Hid (e = ((q.1.num : Int) == (o.num : Int))) := ⟨_, rfl⟩
   obtain ⟨a3, HA3⟩ : ∃ e : Bool, Hid (e = (a1 && a2)) := ⟨_, rfl⟩
   have HA : Hid (a3 = true ↔ (q.1.peer = o.peer ∧ q.1.num = o.num)) := by
    show _ ↔ _
    rw [HA3.out, HA1.out, HA2.out, Bool.and_eq_true, beq_iff_eq, beq_iff_eq]
    omega
   clear ha0 ha1 hcell hcw hq hkp hkw hbox hb1 bz c5 hW
   go_upto_region 4 with fail
   go_cut [38] (fun v wd => v = .bool a3 ∧ Kept (fun _ => False) wr wd)
   case first =>
    refine wp_region_byG (by kernel_rfl) _ rfl (by kernel_rfl) (fun iz v wx => match iz with
     | 0 => v = .pointer (some ⟨bp, 0, none⟩)
     | 1 => v = .pointer (some ⟨bp, 0, none⟩)
     | 2 => v = .pointer (some ⟨bp, 5, none⟩)
     | 3 => v = .slice (some ⟨gh, 0, none⟩) s.held.length cp
     | 4 => v = .int .i64 (k : Nat)
     | 5 => v = .pointer (some ⟨gh, k * 9, none⟩)
     | 6 => v = .pointer (some ⟨gh, k * 9 + 1, none⟩)
     | 7 => v = .int .i64 (q.1.peer : Nat)
     | 8 => v = .pointer (some ⟨w.heap.size, 1, none⟩)
     | 9 => v = .int .i64 (o.peer : Nat)
     | 10 => v = .bool a1
     | 11 => v = .bool a1
     | 12 => a1 = true → v = .pointer (some ⟨bp, 0, none⟩)
     | 13 => a1 = true → v = .pointer (some ⟨bp, 0, none⟩)
     | 14 => a1 = true → v = .pointer (some ⟨bp, 5, none⟩)
     | 15 => a1 = true → v = .slice (some ⟨gh, 0, none⟩) s.held.length cp
     | 16 => a1 = true → v = .int .i64 (k : Nat)
     | 17 => a1 = true → v = .pointer (some ⟨gh, k * 9, none⟩)
     | 18 => a1 = true → v = .pointer (some ⟨gh, k * 9 + 2, none⟩)
     | 19 => a1 = true → v = .int .i64 (q.1.num : Nat)
     | 20 => a1 = true → v = .pointer (some ⟨w.heap.size, 2, none⟩)
     | 21 => a1 = true → v = .int .i64 (o.num : Nat)
     | 22 => a1 = true → v = .bool a2
     | 23 => v = .bool a3
     | _ => True) ?_ ?_ ?_
    ·intro i v wa wb hv hk
     split at hv
     all_goals exact hv
    ·intro i o' hi a' wa up
     have hk' := up.kept
     have hkk : Kept (fun _ => False) wr wa := ((Kept.refl _ wr).drew).trans' hk'
     have u5 := hkk.cell' d5 (fun h => h)
     have u1 := hkk.cell' x1 (fun h => h)
     have u2 := hkk.cell' x2 (fun h => h)
     have t1 := hkk.cell' b1 (fun h => h)
     have t2 := hkk.cell' b2 (fun h => h)
     have hold : ∀ d : Nat, (d = 0 ∨ d = 3 ∨ d = 5) → a'.tmps[d]? = _ := fun d hd => up.old d (by
      intro j oj hj hjd
      exfalso
      rcases j with _ | _ | _ | _ | _ | _ | _ | _ | _ | _ | _ | _ | _ | _ | _ | _ | _ | _ | _ | _ | _ | _ | _ | _ | j <;> simp at hj <;> subst hj <;> simp at hjd <;> omega)
     have o0 := hold 0 (by decide)
     have o3 := hold 3 (by decide)
     have o5 := hold 5 (by decide)
     simp at o0 o3 o5
     clear hold
     rcases i with _ | _ | _ | _ | _ | _ | _ | _ | _ | _ | _ | _ | _ | _ | _ | _ | _ | _ | _ | _ | _ | _ | _ | _ | i
     all_goals simp only [List.getElem?_cons_zero, List.getElem?_cons_succ, List.getElem?_nil, Option.some.injEq, reduceCtorEq] at hi
     all_goals try subst hi
     ·left
      refine ⟨by simp [Region.wanted], ?_⟩
      simp [Oper.wp, go_sem, Act.eval, o0]
      exact ⟨_, rfl, rfl, Kept.refl _ _⟩
     ·obtain ⟨_, s0, rfl⟩ := up.d 0 15 rfl rfl
      left
      refine ⟨by simp [Region.wanted], ?_⟩
      simp [Oper.wp, go_sem, Act.eval, s0]
      exact ⟨_, rfl, rfl, Kept.refl _ _⟩
     ·obtain ⟨_, s1, rfl⟩ := up.d 1 16 rfl rfl
      left
      refine ⟨by simp [Region.wanted], ?_⟩
      simp [Oper.wp, go_sem, Act.eval, s1]
      exact ⟨_, rfl, rfl, Kept.refl _ _⟩
     ·obtain ⟨_, s2, rfl⟩ := up.d 2 17 rfl rfl
      left
      refine ⟨by simp [Region.wanted], ?_⟩
      simp [Oper.wp, go_sem, Act.eval, s2, u5]
      exact ⟨_, rfl, rfl, Kept.refl _ _⟩
     ·left
      refine ⟨by simp [Region.wanted], ?_⟩
      simp [Oper.wp, go_sem, Act.eval, o5]
      exact ⟨_, rfl, rfl, Kept.refl _ _⟩
     ·obtain ⟨_, s3, rfl⟩ := up.d 3 18 rfl rfl
      obtain ⟨_, s4, rfl⟩ := up.d 4 19 rfl rfl
      left
      refine ⟨by simp [Region.wanted], ?_⟩
      simp [Oper.wp, go_sem, Act.eval, s3, s4, hki, hlt]
      exact ⟨_, rfl, rfl, Kept.refl _ _⟩
     ·obtain ⟨_, s5, rfl⟩ := up.d 5 20 rfl rfl
      left
      refine ⟨by simp [Region.wanted], ?_⟩
      simp [Oper.wp, go_sem, Act.eval, s5]
      exact ⟨_, rfl, rfl, Kept.refl _ _⟩
     ·obtain ⟨_, s6, rfl⟩ := up.d 6 21 rfl rfl
      left
      refine ⟨by simp [Region.wanted], ?_⟩
      simp [Oper.wp, go_sem, Act.eval, s6, u1]
      exact ⟨_, rfl, rfl, Kept.refl _ _⟩
     ·left
      refine ⟨by simp [Region.wanted], ?_⟩
      simp [Oper.wp, go_sem, Act.eval, o3]
      exact ⟨_, rfl, rfl, Kept.refl _ _⟩
     ·obtain ⟨_, s8, rfl⟩ := up.d 8 23 rfl rfl
      left
      refine ⟨by simp [Region.wanted], ?_⟩
      simp [Oper.wp, go_sem, Act.eval, s8, t1]
      exact ⟨_, rfl, rfl, Kept.refl _ _⟩
     ·obtain ⟨_, s7, rfl⟩ := up.d 7 22 rfl rfl
      obtain ⟨_, s9, rfl⟩ := up.d 9 24 rfl rfl
      left
      refine ⟨by simp [Region.wanted], ?_⟩
      simp [Oper.wp, go_sem, Act.eval, s7, s9]
      exact ⟨_, rfl, by simp [HA1.out], Kept.refl _ _⟩
     ·obtain ⟨_, s10, rfl⟩ := up.d 10 25 rfl rfl
      left
      refine ⟨by simp [Region.wanted], ?_⟩
      simp [Oper.wp, go_sem, Act.eval, s10]
      exact ⟨_, rfl, rfl, Kept.refl _ _⟩
     ·obtain ⟨_, sg, rfl⟩ := up.d 11 26 rfl rfl
      by_cases he : a1 = true
      ·left
       refine ⟨by simp [Region.wanted, yielded, sg, he], ?_⟩
       simp [Oper.wp, go_sem, Act.eval, o0]
       exact ⟨_, rfl, fun _ => rfl, Kept.refl _ _⟩
      ·right
       have he' : a1 = false := eq_false_of_ne_true he
       exact ⟨by simp [Region.wanted, yielded, sg, he'], fun h => absurd h he⟩
     ·obtain ⟨v12, s12, hv12⟩ := up.d 12 27 rfl rfl
      have hv12 : a1 = true → v12 = _ := hv12
      obtain ⟨_, sg, rfl⟩ := up.d 11 26 rfl rfl
      by_cases he : a1 = true
      ·left
       refine ⟨by simp [Region.wanted, yielded, sg, he], ?_⟩
       have hv12 := hv12 he
       subst hv12
       simp [Oper.wp, go_sem, Act.eval, s12]
       exact ⟨_, rfl, fun _ => rfl, Kept.refl _ _⟩
      ·right
       have he' : a1 = false := eq_false_of_ne_true he
       exact ⟨by simp [Region.wanted, yielded, sg, he'], fun h => absurd h he⟩
     ·obtain ⟨v13, s13, hv13⟩ := up.d 13 28 rfl rfl
      have hv13 : a1 = true → v13 = _ := hv13
      obtain ⟨_, sg, rfl⟩ := up.d 11 26 rfl rfl
      by_cases he : a1 = true
      ·left
       refine ⟨by simp [Region.wanted, yielded, sg, he], ?_⟩
       have hv13 := hv13 he
       subst hv13
       simp [Oper.wp, go_sem, Act.eval, s13]
       exact ⟨_, rfl, fun _ => rfl, Kept.refl _ _⟩
      ·right
       have he' : a1 = false := eq_false_of_ne_true he
       exact ⟨by simp [Region.wanted, yielded, sg, he'], fun h => absurd h he⟩
     ·obtain ⟨v14, s14, hv14⟩ := up.d 14 29 rfl rfl
      have hv14 : a1 = true → v14 = _ := hv14
      obtain ⟨_, sg, rfl⟩ := up.d 11 26 rfl rfl
      by_cases he : a1 = true
      ·left
       refine ⟨by simp [Region.wanted, yielded, sg, he], ?_⟩
       have hv14 := hv14 he
       subst hv14
       simp [Oper.wp, go_sem, Act.eval, s14, u5]
       exact ⟨_, rfl, fun _ => rfl, Kept.refl _ _⟩
      ·right
       have he' : a1 = false := eq_false_of_ne_true he
       exact ⟨by simp [Region.wanted, yielded, sg, he'], fun h => absurd h he⟩
     ·obtain ⟨_, sg, rfl⟩ := up.d 11 26 rfl rfl
      by_cases he : a1 = true
      ·left
       refine ⟨by simp [Region.wanted, yielded, sg, he], ?_⟩
       simp [Oper.wp, go_sem, Act.eval, o5]
       exact ⟨_, rfl, fun _ => rfl, Kept.refl _ _⟩
      ·right
       have he' : a1 = false := eq_false_of_ne_true he
       exact ⟨by simp [Region.wanted, yielded, sg, he'], fun h => absurd h he⟩
     ·obtain ⟨v15, s15, hv15⟩ := up.d 15 30 rfl rfl
      have hv15 : a1 = true → v15 = _ := hv15
      obtain ⟨v16, s16, hv16⟩ := up.d 16 31 rfl rfl
      have hv16 : a1 = true → v16 = _ := hv16
      obtain ⟨_, sg, rfl⟩ := up.d 11 26 rfl rfl
      by_cases he : a1 = true
      ·left
       refine ⟨by simp [Region.wanted, yielded, sg, he], ?_⟩
       have hv15 := hv15 he
       subst hv15
       have hv16 := hv16 he
       subst hv16
       simp [Oper.wp, go_sem, Act.eval, s15, s16, hki, hlt]
       exact ⟨_, rfl, fun _ => rfl, Kept.refl _ _⟩
      ·right
       have he' : a1 = false := eq_false_of_ne_true he
       exact ⟨by simp [Region.wanted, yielded, sg, he'], fun h => absurd h he⟩
     ·obtain ⟨v17, s17, hv17⟩ := up.d 17 32 rfl rfl
      have hv17 : a1 = true → v17 = _ := hv17
      obtain ⟨_, sg, rfl⟩ := up.d 11 26 rfl rfl
      by_cases he : a1 = true
      ·left
       refine ⟨by simp [Region.wanted, yielded, sg, he], ?_⟩
       have hv17 := hv17 he
       subst hv17
       simp [Oper.wp, go_sem, Act.eval, s17]
       exact ⟨_, rfl, fun _ => rfl, Kept.refl _ _⟩
      ·right
       have he' : a1 = false := eq_false_of_ne_true he
       exact ⟨by simp [Region.wanted, yielded, sg, he'], fun h => absurd h he⟩
     ·obtain ⟨v18, s18, hv18⟩ := up.d 18 33 rfl rfl
      have hv18 : a1 = true → v18 = _ := hv18
      obtain ⟨_, sg, rfl⟩ := up.d 11 26 rfl rfl
      by_cases he : a1 = true
      ·left
       refine ⟨by simp [Region.wanted, yielded, sg, he], ?_⟩
       have hv18 := hv18 he
       subst hv18
       simp [Oper.wp, go_sem, Act.eval, s18, u2]
       exact ⟨_, rfl, fun _ => rfl, Kept.refl _ _⟩
      ·right
       have he' : a1 = false := eq_false_of_ne_true he
       exact ⟨by simp [Region.wanted, yielded, sg, he'], fun h => absurd h he⟩
     ·obtain ⟨_, sg, rfl⟩ := up.d 11 26 rfl rfl
      by_cases he : a1 = true
      ·left
       refine ⟨by simp [Region.wanted, yielded, sg, he], ?_⟩
       simp [Oper.wp, go_sem, Act.eval, o3]
       exact ⟨_, rfl, fun _ => rfl, Kept.refl _ _⟩
      ·right
       have he' : a1 = false := eq_false_of_ne_true he
       exact ⟨by simp [Region.wanted, yielded, sg, he'], fun h => absurd h he⟩
     ·obtain ⟨v20, s20, hv20⟩ := up.d 20 35 rfl rfl
      have hv20 : a1 = true → v20 = _ := hv20
      obtain ⟨_, sg, rfl⟩ := up.d 11 26 rfl rfl
      by_cases he : a1 = true
      ·left
       refine ⟨by simp [Region.wanted, yielded, sg, he], ?_⟩
       have hv20 := hv20 he
       subst hv20
       simp [Oper.wp, go_sem, Act.eval, s20, t2]
       exact ⟨_, rfl, fun _ => rfl, Kept.refl _ _⟩
      ·right
       have he' : a1 = false := eq_false_of_ne_true he
       exact ⟨by simp [Region.wanted, yielded, sg, he'], fun h => absurd h he⟩
     ·obtain ⟨v19, s19, hv19⟩ := up.d 19 34 rfl rfl
      have hv19 : a1 = true → v19 = _ := hv19
      obtain ⟨v21, s21, hv21⟩ := up.d 21 36 rfl rfl
      have hv21 : a1 = true → v21 = _ := hv21
      obtain ⟨_, sg, rfl⟩ := up.d 11 26 rfl rfl
      by_cases he : a1 = true
      ·left
       refine ⟨by simp [Region.wanted, yielded, sg, he], ?_⟩
       have hv19 := hv19 he
       subst hv19
       have hv21 := hv21 he
       subst hv21
       simp [Oper.wp, go_sem, Act.eval, s19, s21]
       exact ⟨_, rfl, fun _ => by simp [HA2.out], Kept.refl _ _⟩
      ·right
       have he' : a1 = false := eq_false_of_ne_true he
       exact ⟨by simp [Region.wanted, yielded, sg, he'], fun h => absurd h he⟩
     ·obtain ⟨_, s11, rfl⟩ := up.d 11 26 rfl rfl
      obtain ⟨v22, s22, hv22⟩ := up.d 22 37 rfl rfl
      have hv22 : a1 = true → v22 = _ := hv22
      left
      refine ⟨by simp [Region.wanted], ?_⟩
      by_cases he : a1 = true
      ·have hv22 := hv22 he
       subst hv22
       simp [Oper.wp, go_sem, Act.eval, s11, s22, he]
       exact ⟨_, rfl, by simp [HA3.out, he], Kept.refl _ _⟩
      ·have he' : a1 = false := eq_false_of_ne_true he
       simp [Oper.wp, go_sem, Act.eval, s11, s22, he']
       exact ⟨_, rfl, by simp [HA3.out, he'], Kept.refl _ _⟩
    ·intro vals wz hk hvv
     have h23 : vals 23 = _ := hvv 23 (by decide)
     have hk0 : Kept (fun _ => False) wr wz := ((Kept.refl _ wr).drew).trans' hk
     clear hvv
     simp only [putAll, Act.put, h23]
     simp only [Nat.reduceAdd, Nat.zero_add, List.setIfInBounds_toArray, List.set_cons_succ, List.set_cons_zero]
     go_wp2_with fail
     go_meet
     exact ⟨rfl, hk0⟩
   case rest =>
   obtain ⟨rfl, k2⟩ := hcut
   have HK2 : Hid (Kept (fun _ => False) w wc ∧ Kept (fun _ => False) W wc) := ⟨HK.out.trans' k2, HK1.out.trans' k2⟩
   clear k2
   cases a3 with
   | true =>
    go_wp2_with fail
    go_ret
    refine ⟨true, rfl, ?_, HK2.out.1⟩
    simp only [true_iff]
    exact ⟨q.1, (HPH.out _).2 ⟨q, List.mem_of_getElem? HQ.out, rfl⟩, by have h9 := HA.out; simpa using h9⟩
   | false =>
    go_wp2_with fail
    go_roundw
    case rel =>
     refine ⟨k + 1, by omega, by go_num, HK2.out.2, fun j x hj hx => ?_⟩
     by_cases hjk : j < k
     ·exact hc.out j x hjk hx
     ·obtain rfl : j = k := by omega
      have : q = x := by have h1 := HQ.out; rw [hx] at h1; exact (Option.some.inj h1).symm
      subst this
      intro hh
      have h9 := HA.out
      simp at h9
      exact h9 hh.1 hh.2
    case measure => simp [intOf]; omega
  ·have hki : ¬ (k : Int) < (s.held.length : Int) := by omega
   go_wp2_with fail
   go_ret
   refine ⟨false, rfl, ?_, HK.out⟩
   constructor
   ·intro h; cases h
   ·rintro ⟨q, hq, h1⟩
    obtain ⟨x, hx, rfl⟩ := (HPH.out q).1 hq
    obtain ⟨j, hj, hjx⟩ := List.getElem_of_mem hx
    exact absurd h1 (hc.out j x (by omega) (by rw [List.getElem?_eq_getElem hj, hjx]))
def RSt.oneR (s : RSt) (o : OpeV) : RSt × Nat × Int :=
 if o.1.peer = s.me ∧ s.pr.k s.me < o.1.num then (s, 0, 6)
 else if o.1.num ≤ s.pr.k o.1.peer ∨ (∃ q ∈ s.pr.held, q.peer = o.1.peer ∧ q.num = o.1.num) then (s, 0, 0)
 else if s.pr.can o.1 then ((s.deliverR o).1, (s.deliverR o).2, 0)
 else if 16 ≤ s.held.length then (s, 0, 5)
 else ({ s with held := s.held ++ [o] }, 0, 0)
def OneAny (bp : Nat) (F : Nat → Prop) (s : RSt) (l : List UInt8) (w : World) (e' : Ending) (w' : World) : Prop :=
 (¬ Right s.ops.length l ∧ e' = .returned (.tuple #[.int .i64 0, .int .i64 6]) ∧ Kept (fun _ => False) w w') ∨
 (Right s.ops.length l ∧ ∃ sv, e' = .returned (.tuple #[.int .i64 ((s.oneR (fieldsOf s.ops.length l, sv)).2.1 : Nat), .int .i64 (s.oneR (fieldsOf s.ops.length l, sv)).2.2]) ∧ RTurn bp F w w' (s.oneR (fieldsOf s.ops.length l, sv)).1)
theorem rk_at (s : RSt) (i n : Nat) (h : s.known[i]? = some n) : s.pr.k i = n := by
 show (s.known.getD i 0) = n
 rw [List.getD_eq_getElem?_getD, h]; rfl
set_option maxHeartbeats 4000000 in
set_option maxRecDepth 100000 in
theorem rone_any {w : World} {F : Nat → Prop} {bp : Nat} {s : RSt} {rv : Value} {bo : Nat} {vs : List Value} {hv : Value} (h : RefAt w F bp s rv bo vs hv) (hFl : ∀ b, F b → b < w.heap.size) (l : List UInt8) (hN1 : 1 ≤ s.ops.length) (h8 : s.ops.length ≤ 8) (hm : s.me < s.ops.length) (hR : ∀ o ∈ s.held, RightOp s.ops.length o.1) (hlen : ∀ l ∈ s.ops, l.length + s.held.length ≤ 4294967294) (hrl : s.row.length + s.held.length ≤ 4294967294) (hhl : s.held.length ≤ 60000) (hsc : s.clock < 4294967296) :
  Calls Tryz.prog 51 #[.pointer (some ⟨bp, 0, none⟩), .string ⟨l.toArray⟩] w (OneAny bp F s l w) := by
 obtain ⟨c0, c1, c2, c3, c4, c5⟩ := h.cells
 have bz := lt_of_heap h.block
 obtain ⟨ha, hc, hve, _, _, _, _⟩ := rops_of_own h.heldAt
 subst hve
 have hrd := rRead_any l s.ops.length w hN1 h8
 have HR : Hid (RefAt w F bp s rv bo vs (.slice ha s.held.length hc)) := h
 have HFL : Hid (∀ b, F b → b < w.heap.size) := hFl
 have HLEN : Hid (∀ l ∈ s.ops, l.length + s.held.length ≤ 4294967294) := hlen
 have HRR : Hid (∀ o ∈ s.held, RightOp s.ops.length o.1) := hR
 obtain ⟨S, hS⟩ : ∃ S : ByteArray, S = ⟨l.toArray⟩ := ⟨_, rfl⟩
 rw [← hS] at hrd ⊢
 clear h hFl hlen hR hS
 go_enter Tryz.func51, Tryz.ntmps51
 go_wp2_with fail
 refine hrd.mono ?_
 clear hrd
 rintro e1 w1 (⟨hno, k1, b, i1, i2, i3, i5, i6, i7, ra, rn, rc, T, rfl⟩ | ⟨hyes, k1, sv, rfl, g, cpo, cur, rfl, hgw, hg, hcur⟩)
 ·have HNO : Hid (¬ Right s.ops.length l) := hno
  have HK1 : Hid (Kept (fun _ => False) w w1) := k1
  clear hno k1
  go_upto_region 2 with fail
  go_quiet (fail)
  go_wp2
  go_ret2
  exact Or.inl ⟨HNO.out, rfl, (HK1.out.alloc _).drewN _⟩
 obtain ⟨o, ho⟩ : ∃ o, o = fieldsOf s.ops.length l := ⟨_, rfl⟩
 have hro : RightOp s.ops.length o := by rw [ho]; exact (hyes.packet h8).2
 rw [← ho] at hcur ⊢
 rw [show (opCells (o, .slice (some ⟨g, 0, none⟩) o.seen.length cpo)).toArray = #[.bool o.ins, .int .i64 o.peer, .int .i64 o.num, .int .i64 o.clock, .slice (some ⟨g, 0, none⟩) o.seen.length cpo, .int .i64 o.nclock, .int .i64 o.npeer, .int .i64 o.char, .string ⟨o.packet.toArray⟩] from rfl]
 have HY : Hid (Right s.ops.length l ∧ o = fieldsOf s.ops.length l) := ⟨hyes, ho⟩
 obtain ⟨W, hWe⟩ : ∃ W, W = w1.alloc (.cells #[.bool o.ins, .int .i64 o.peer, .int .i64 o.num, .int .i64 o.clock, .slice (some ⟨g, 0, none⟩) o.seen.length cpo, .int .i64 o.nclock, .int .i64 o.npeer, .int .i64 o.char, .string ⟨o.packet.toArray⟩] 119) := ⟨_, rfl⟩
 have hW : Kept (fun _ => False) w W := by rw [hWe]; exact k1.alloc _
 have hbox : W.heap[w1.heap.size]? = some (.cells #[.bool o.ins, .int .i64 o.peer, .int .i64 o.num, .int .i64 o.clock, .slice (some ⟨g, 0, none⟩) o.seen.length cpo, .int .i64 o.nclock, .int .i64 o.npeer, .int .i64 o.char, .string ⟨o.packet.toArray⟩] 119 (0, 0)) := by rw [hWe]; exact heap_alloc_new w1 _
 have HSV : Hid (RSeenAt W (fun b => w.heap.size ≤ b) (.slice (some ⟨g, 0, none⟩) o.seen.length cpo) o.seen) := ⟨g, cpo, cur, rfl, hgw, (by rw [hWe]; exact ((Kept.refl (fun _ => False) w1).alloc _).heap hg (fun h => h)), hcur⟩
 have HSC : Hid (W.heap[g]? = some (.cells cur 3 (0, 0)) ∧ (∀ (i n : Nat), o.seen[i]? = some n → cur[i]? = some (.int .i64 (n : Int))) ∧ w.heap.size ≤ g) := ⟨(by rw [hWe]; exact ((Kept.refl (fun _ => False) w1).alloc _).heap hg (fun h => h)), hcur, hgw⟩
 obtain ⟨bx, hbx⟩ : ∃ bx, bx = w1.heap.size := ⟨_, rfl⟩
 have HBX : Hid (w.heap.size ≤ bx) := by show _ ≤ _; rw [hbx]; exact k1.size
 have HFIN : Hid (∀ (w' : World) (n : Nat) (e : Int) (s' : RSt), s.oneR (o, .slice (some ⟨g, 0, none⟩) o.seen.length cpo) = (s', n, e) → RTurn bp F w w' s' → OneAny bp F s l w (.returned (.tuple #[.int .i64 (n : Nat), .int .i64 e])) w') := fun w' n e s' he ht => by
  refine Or.inr ⟨hyes, .slice (some ⟨g, 0, none⟩) o.seen.length cpo, ?_, ?_⟩
  ·rw [← ho, he]
  ·rw [← ho, he]; exact ht
 clear hyes ho hcur hg hgw
 go_upto_region 2 with fail
 rw [← hWe, ← hbx]
 rw [← hbx] at hbox
 clear hWe hbx k1
 obtain ⟨la, aa, ac, hla, gme, _, hkn⟩ := HR.out.opsCell s.me hm
 obtain ⟨lp, pa, pc, hlp, gp, _, hkp⟩ := HR.out.opsCell o.peer hro.peer
 have hkme : s.pr.k s.me = la.length := rk_at s _ _ hkn
 have hkpe : s.pr.k o.peer = lp.length := rk_at s _ _ hkp
 have d0 := hW.cell' c0 (fun h => h)
 have d4 := hW.cell' c4 (fun h => h)
 have d5 := hW.cell' c5 (fun h => h)
 have dme := hW.cell' gme (fun h => h)
 have dp := hW.cell' gp (fun h => h)
 obtain ⟨x0, x1, x2, x3, x4, x5, x6, x7, x8⟩ := cells9 hbox
 have zx := lt_of_heap hbox
 have zb : bp < W.heap.size := Nat.lt_of_lt_of_le bz hW.size
 have zo : bo < W.heap.size := World.block_lt_of_cell? W _ dp
 have hmi : (s.me : Int) < (s.ops.length : Int) := by omega
 have hpl := hro.peer
 have hpi : (o.peer : Int) < (s.ops.length : Int) := by omega
 have HRO : Hid (RightOp s.ops.length o) := hro
 have HW : Hid (Kept (fun _ => False) w W) := hW
 have HKM : Hid (s.pr.k s.me = la.length ∧ s.pr.k o.peer = lp.length) := ⟨hkme, hkpe⟩
 have HBOX : Hid (W.heap[bx]? = some (.cells #[.bool o.ins, .int .i64 o.peer, .int .i64 o.num, .int .i64 o.clock, .slice (some ⟨g, 0, none⟩) o.seen.length cpo, .int .i64 o.nclock, .int .i64 o.npeer, .int .i64 o.char, .string ⟨o.packet.toArray⟩] 119 (0, 0))) := hbox
 obtain ⟨a1, HA1⟩ : ∃ e : Bool, Hid (e = ((o.peer : Int) == (s.me : Int))) := ⟨_, rfl⟩
 obtain ⟨a2, HA2⟩ : ∃ e : Bool, Hid (e = decide ((la.length : Int) < (o.num : Int))) := ⟨_, rfl⟩
 obtain ⟨a3, HA3⟩ : ∃ e : Bool, Hid (e = (a1 && a2)) := ⟨_, rfl⟩
 have HA : Hid (a3 = true ↔ (o.peer = s.me ∧ s.pr.k s.me < o.num)) := by
  show _ ↔ _
  rw [HA3.out, HA1.out, HA2.out, Bool.and_eq_true, beq_iff_eq, decide_eq_true_eq, HKM.out.1]
  omega
 clear hla hlp gme gp hkn hkp hkme hkpe hro hW hbox c0 c1 c2 c3 c4 c5 bz
 go_cut [46] (fun v wd => v = .bool a3 ∧ Kept (fun _ => False) W wd)
 case first =>
  refine wp_region_byG (by kernel_rfl) _ rfl (by kernel_rfl) (fun iz v wx => match iz with
   | 0 => v = .bool true
   | 1 => v = .bool false
   | 2 => v = .bool false
   | 3 => v = .pointer (some ⟨bx, 1, none⟩)
   | 4 => v = .int .i64 (o.peer : Nat)
   | 5 => v = .pointer (some ⟨bp, 0, none⟩)
   | 6 => v = .pointer (some ⟨bp, 0, none⟩)
   | 7 => v = .pointer (some ⟨bp, 0, none⟩)
   | 8 => v = .int .i64 (s.me : Nat)
   | 9 => v = .bool a1
   | 10 => v = .bool a1
   | 11 => a1 = true → v = .pointer (some ⟨bx, 2, none⟩)
   | 12 => a1 = true → v = .int .i64 (o.num : Nat)
   | 13 => a1 = true → v = .pointer (some ⟨bp, 0, none⟩)
   | 14 => a1 = true → v = .pointer (some ⟨bp, 0, none⟩)
   | 15 => a1 = true → v = .pointer (some ⟨bp, 4, none⟩)
   | 16 => a1 = true → v = .slice (some ⟨bo, 0, none⟩) s.ops.length s.ops.length
   | 17 => a1 = true → v = .pointer (some ⟨bp, 0, none⟩)
   | 18 => a1 = true → v = .pointer (some ⟨bp, 0, none⟩)
   | 19 => a1 = true → v = .pointer (some ⟨bp, 0, none⟩)
   | 20 => a1 = true → v = .int .i64 (s.me : Nat)
   | 21 => a1 = true → v = .pointer (some ⟨bo, s.me, none⟩)
   | 22 => a1 = true → v = .slice aa la.length ac
   | 23 => a1 = true → v = .int .i64 (la.length : Nat)
   | 24 => a1 = true → v = .bool a2
   | 25 => v = .bool a3
   | 26 => v = .bool a3
   | _ => True) ?_ ?_ ?_
  ·intro i v wa wb hv hk
   split at hv
   all_goals exact hv
  ·intro i o' hi a' wa up
   have hk' := up.kept
   have hkk : Kept (fun _ => False) W wa := ((Kept.refl _ W).drew).trans' hk'
   have u0 := hkk.cell' d0 (fun h => h)
   have u4 := hkk.cell' d4 (fun h => h)
   have ume := hkk.cell' dme (fun h => h)
   have up_ := hkk.cell' dp (fun h => h)
   have t1 := hkk.cell' x1 (fun h => h)
   have t2 := hkk.cell' x2 (fun h => h)
   have hold : ∀ d : Nat, (d = 0 ∨ d = 6 ∨ d = 7) → a'.tmps[d]? = _ := fun d hd => up.old d (by
    intro j oj hj hjd
    exfalso
    rcases j with _ | _ | _ | _ | _ | _ | _ | _ | _ | _ | _ | _ | _ | _ | _ | _ | _ | _ | _ | _ | _ | _ | _ | _ | _ | _ | _ | j <;> simp at hj <;> subst hj <;> simp at hjd <;> omega)
   have o0 := hold 0 (by decide)
   have o6 := hold 6 (by decide)
   have o7 := hold 7 (by decide)
   simp at o0 o6 o7
   clear hold
   rcases i with _ | _ | _ | _ | _ | _ | _ | _ | _ | _ | _ | _ | _ | _ | _ | _ | _ | _ | _ | _ | _ | _ | _ | _ | _ | _ | _ | i
   all_goals simp only [List.getElem?_cons_zero, List.getElem?_cons_succ, List.getElem?_nil, Option.some.injEq, reduceCtorEq] at hi
   all_goals try subst hi
   ·left
    refine ⟨by simp [Region.wanted], ?_⟩
    simp [Oper.wp, go_sem, Act.eval, o7]
    exact ⟨_, rfl, rfl, Kept.refl _ _⟩
   ·obtain ⟨_, s0, rfl⟩ := up.d 0 20 rfl rfl
    left
    refine ⟨by simp [Region.wanted], ?_⟩
    simp [Oper.wp, go_sem, Act.eval, s0]
    exact ⟨_, rfl, rfl, Kept.refl _ _⟩
   ·obtain ⟨_, s1, rfl⟩ := up.d 1 21 rfl rfl
    left
    refine ⟨by simp [Region.wanted], ?_⟩
    simp [Oper.wp, go_sem, Act.eval, s1]
    exact ⟨_, rfl, rfl, Kept.refl _ _⟩
   ·obtain ⟨_, sg, rfl⟩ := up.d 2 22 rfl rfl
    left
    refine ⟨by simp [Region.wanted, yielded, sg], ?_⟩
    simp [Oper.wp, go_sem, Act.eval, o6]
    exact ⟨_, rfl, rfl, Kept.refl _ _⟩
   ·obtain ⟨_, s3, rfl⟩ := up.d 3 23 rfl rfl
    obtain ⟨_, sg, rfl⟩ := up.d 2 22 rfl rfl
    left
    refine ⟨by simp [Region.wanted, yielded, sg], ?_⟩
    simp [Oper.wp, go_sem, Act.eval, s3, t1]
    exact ⟨_, rfl, rfl, Kept.refl _ _⟩
   ·obtain ⟨_, sg, rfl⟩ := up.d 2 22 rfl rfl
    left
    refine ⟨by simp [Region.wanted, yielded, sg], ?_⟩
    simp [Oper.wp, go_sem, Act.eval, o0]
    exact ⟨_, rfl, rfl, Kept.refl _ _⟩
   ·obtain ⟨_, s5, rfl⟩ := up.d 5 25 rfl rfl
    obtain ⟨_, sg, rfl⟩ := up.d 2 22 rfl rfl
    left
    refine ⟨by simp [Region.wanted, yielded, sg], ?_⟩
    simp [Oper.wp, go_sem, Act.eval, s5]
    exact ⟨_, rfl, rfl, Kept.refl _ _⟩
   ·obtain ⟨_, s6, rfl⟩ := up.d 6 26 rfl rfl
    obtain ⟨_, sg, rfl⟩ := up.d 2 22 rfl rfl
    left
    refine ⟨by simp [Region.wanted, yielded, sg], ?_⟩
    simp [Oper.wp, go_sem, Act.eval, s6]
    exact ⟨_, rfl, rfl, Kept.refl _ _⟩
   ·obtain ⟨_, s7, rfl⟩ := up.d 7 27 rfl rfl
    obtain ⟨_, sg, rfl⟩ := up.d 2 22 rfl rfl
    left
    refine ⟨by simp [Region.wanted, yielded, sg], ?_⟩
    simp [Oper.wp, go_sem, Act.eval, s7, u0]
    exact ⟨_, rfl, rfl, Kept.refl _ _⟩
   ·obtain ⟨_, s4, rfl⟩ := up.d 4 24 rfl rfl
    obtain ⟨_, s8, rfl⟩ := up.d 8 28 rfl rfl
    obtain ⟨_, sg, rfl⟩ := up.d 2 22 rfl rfl
    left
    refine ⟨by simp [Region.wanted, yielded, sg], ?_⟩
    simp [Oper.wp, go_sem, Act.eval, s4, s8]
    exact ⟨_, rfl, by simp [HA1.out], Kept.refl _ _⟩
   ·obtain ⟨_, s9, rfl⟩ := up.d 9 29 rfl rfl
    obtain ⟨_, sg, rfl⟩ := up.d 2 22 rfl rfl
    left
    refine ⟨by simp [Region.wanted, yielded, sg], ?_⟩
    simp [Oper.wp, go_sem, Act.eval, s9]
    exact ⟨_, rfl, rfl, Kept.refl _ _⟩
   ·obtain ⟨_, sg, rfl⟩ := up.d 10 30 rfl rfl
    by_cases he : a1 = true
    ·left
     refine ⟨by simp [Region.wanted, yielded, sg, he], ?_⟩
     simp [Oper.wp, go_sem, Act.eval, o6]
     exact ⟨_, rfl, fun _ => rfl, Kept.refl _ _⟩
    ·right
     have he' : a1 = false := eq_false_of_ne_true he
     exact ⟨by simp [Region.wanted, yielded, sg, he'], fun h => absurd h he⟩
   ·obtain ⟨v11, s11, hv11⟩ := up.d 11 31 rfl rfl
    have hv11 : a1 = true → v11 = _ := hv11
    obtain ⟨_, sg, rfl⟩ := up.d 10 30 rfl rfl
    by_cases he : a1 = true
    ·left
     refine ⟨by simp [Region.wanted, yielded, sg, he], ?_⟩
     have hv11 := hv11 he
     subst hv11
     simp [Oper.wp, go_sem, Act.eval, s11, t2]
     exact ⟨_, rfl, fun _ => rfl, Kept.refl _ _⟩
    ·right
     have he' : a1 = false := eq_false_of_ne_true he
     exact ⟨by simp [Region.wanted, yielded, sg, he'], fun h => absurd h he⟩
   ·obtain ⟨_, sg, rfl⟩ := up.d 10 30 rfl rfl
    by_cases he : a1 = true
    ·left
     refine ⟨by simp [Region.wanted, yielded, sg, he], ?_⟩
     simp [Oper.wp, go_sem, Act.eval, o0]
     exact ⟨_, rfl, fun _ => rfl, Kept.refl _ _⟩
    ·right
     have he' : a1 = false := eq_false_of_ne_true he
     exact ⟨by simp [Region.wanted, yielded, sg, he'], fun h => absurd h he⟩
   ·obtain ⟨v13, s13, hv13⟩ := up.d 13 33 rfl rfl
    have hv13 : a1 = true → v13 = _ := hv13
    obtain ⟨_, sg, rfl⟩ := up.d 10 30 rfl rfl
    by_cases he : a1 = true
    ·left
     refine ⟨by simp [Region.wanted, yielded, sg, he], ?_⟩
     have hv13 := hv13 he
     subst hv13
     simp [Oper.wp, go_sem, Act.eval, s13]
     exact ⟨_, rfl, fun _ => rfl, Kept.refl _ _⟩
    ·right
     have he' : a1 = false := eq_false_of_ne_true he
     exact ⟨by simp [Region.wanted, yielded, sg, he'], fun h => absurd h he⟩
   ·obtain ⟨v14, s14, hv14⟩ := up.d 14 34 rfl rfl
    have hv14 : a1 = true → v14 = _ := hv14
    obtain ⟨_, sg, rfl⟩ := up.d 10 30 rfl rfl
    by_cases he : a1 = true
    ·left
     refine ⟨by simp [Region.wanted, yielded, sg, he], ?_⟩
     have hv14 := hv14 he
     subst hv14
     simp [Oper.wp, go_sem, Act.eval, s14]
     exact ⟨_, rfl, fun _ => rfl, Kept.refl _ _⟩
    ·right
     have he' : a1 = false := eq_false_of_ne_true he
     exact ⟨by simp [Region.wanted, yielded, sg, he'], fun h => absurd h he⟩
   ·obtain ⟨v15, s15, hv15⟩ := up.d 15 35 rfl rfl
    have hv15 : a1 = true → v15 = _ := hv15
    obtain ⟨_, sg, rfl⟩ := up.d 10 30 rfl rfl
    by_cases he : a1 = true
    ·left
     refine ⟨by simp [Region.wanted, yielded, sg, he], ?_⟩
     have hv15 := hv15 he
     subst hv15
     simp [Oper.wp, go_sem, Act.eval, s15, u4]
     exact ⟨_, rfl, fun _ => rfl, Kept.refl _ _⟩
    ·right
     have he' : a1 = false := eq_false_of_ne_true he
     exact ⟨by simp [Region.wanted, yielded, sg, he'], fun h => absurd h he⟩
   ·obtain ⟨_, sg, rfl⟩ := up.d 10 30 rfl rfl
    by_cases he : a1 = true
    ·left
     refine ⟨by simp [Region.wanted, yielded, sg, he], ?_⟩
     simp [Oper.wp, go_sem, Act.eval, o0]
     exact ⟨_, rfl, fun _ => rfl, Kept.refl _ _⟩
    ·right
     have he' : a1 = false := eq_false_of_ne_true he
     exact ⟨by simp [Region.wanted, yielded, sg, he'], fun h => absurd h he⟩
   ·obtain ⟨v17, s17, hv17⟩ := up.d 17 37 rfl rfl
    have hv17 : a1 = true → v17 = _ := hv17
    obtain ⟨_, sg, rfl⟩ := up.d 10 30 rfl rfl
    by_cases he : a1 = true
    ·left
     refine ⟨by simp [Region.wanted, yielded, sg, he], ?_⟩
     have hv17 := hv17 he
     subst hv17
     simp [Oper.wp, go_sem, Act.eval, s17]
     exact ⟨_, rfl, fun _ => rfl, Kept.refl _ _⟩
    ·right
     have he' : a1 = false := eq_false_of_ne_true he
     exact ⟨by simp [Region.wanted, yielded, sg, he'], fun h => absurd h he⟩
   ·obtain ⟨v18, s18, hv18⟩ := up.d 18 38 rfl rfl
    have hv18 : a1 = true → v18 = _ := hv18
    obtain ⟨_, sg, rfl⟩ := up.d 10 30 rfl rfl
    by_cases he : a1 = true
    ·left
     refine ⟨by simp [Region.wanted, yielded, sg, he], ?_⟩
     have hv18 := hv18 he
     subst hv18
     simp [Oper.wp, go_sem, Act.eval, s18]
     exact ⟨_, rfl, fun _ => rfl, Kept.refl _ _⟩
    ·right
     have he' : a1 = false := eq_false_of_ne_true he
     exact ⟨by simp [Region.wanted, yielded, sg, he'], fun h => absurd h he⟩
   ·obtain ⟨v19, s19, hv19⟩ := up.d 19 39 rfl rfl
    have hv19 : a1 = true → v19 = _ := hv19
    obtain ⟨_, sg, rfl⟩ := up.d 10 30 rfl rfl
    by_cases he : a1 = true
    ·left
     refine ⟨by simp [Region.wanted, yielded, sg, he], ?_⟩
     have hv19 := hv19 he
     subst hv19
     simp [Oper.wp, go_sem, Act.eval, s19, u0]
     exact ⟨_, rfl, fun _ => rfl, Kept.refl _ _⟩
    ·right
     have he' : a1 = false := eq_false_of_ne_true he
     exact ⟨by simp [Region.wanted, yielded, sg, he'], fun h => absurd h he⟩
   ·obtain ⟨v16, s16, hv16⟩ := up.d 16 36 rfl rfl
    have hv16 : a1 = true → v16 = _ := hv16
    obtain ⟨v20, s20, hv20⟩ := up.d 20 40 rfl rfl
    have hv20 : a1 = true → v20 = _ := hv20
    obtain ⟨_, sg, rfl⟩ := up.d 10 30 rfl rfl
    by_cases he : a1 = true
    ·left
     refine ⟨by simp [Region.wanted, yielded, sg, he], ?_⟩
     have hv16 := hv16 he
     subst hv16
     have hv20 := hv20 he
     subst hv20
     simp [Oper.wp, go_sem, Act.eval, s16, s20, hmi, hm]
     exact ⟨_, rfl, fun _ => rfl, Kept.refl _ _⟩
    ·right
     have he' : a1 = false := eq_false_of_ne_true he
     exact ⟨by simp [Region.wanted, yielded, sg, he'], fun h => absurd h he⟩
   ·obtain ⟨v21, s21, hv21⟩ := up.d 21 41 rfl rfl
    have hv21 : a1 = true → v21 = _ := hv21
    obtain ⟨_, sg, rfl⟩ := up.d 10 30 rfl rfl
    by_cases he : a1 = true
    ·left
     refine ⟨by simp [Region.wanted, yielded, sg, he], ?_⟩
     have hv21 := hv21 he
     subst hv21
     simp [Oper.wp, go_sem, Act.eval, s21, ume]
     exact ⟨_, rfl, fun _ => rfl, Kept.refl _ _⟩
    ·right
     have he' : a1 = false := eq_false_of_ne_true he
     exact ⟨by simp [Region.wanted, yielded, sg, he'], fun h => absurd h he⟩
   ·obtain ⟨v22, s22, hv22⟩ := up.d 22 42 rfl rfl
    have hv22 : a1 = true → v22 = _ := hv22
    obtain ⟨_, sg, rfl⟩ := up.d 10 30 rfl rfl
    by_cases he : a1 = true
    ·left
     refine ⟨by simp [Region.wanted, yielded, sg, he], ?_⟩
     have hv22 := hv22 he
     subst hv22
     simp [Oper.wp, go_sem, Act.eval, s22]
     exact ⟨_, rfl, fun _ => rfl, Kept.refl _ _⟩
    ·right
     have he' : a1 = false := eq_false_of_ne_true he
     exact ⟨by simp [Region.wanted, yielded, sg, he'], fun h => absurd h he⟩
   ·obtain ⟨v12, s12, hv12⟩ := up.d 12 32 rfl rfl
    have hv12 : a1 = true → v12 = _ := hv12
    obtain ⟨v23, s23, hv23⟩ := up.d 23 43 rfl rfl
    have hv23 : a1 = true → v23 = _ := hv23
    obtain ⟨_, sg, rfl⟩ := up.d 10 30 rfl rfl
    by_cases he : a1 = true
    ·left
     refine ⟨by simp [Region.wanted, yielded, sg, he], ?_⟩
     have hv12 := hv12 he
     subst hv12
     have hv23 := hv23 he
     subst hv23
     simp [Oper.wp, go_sem, Act.eval, s12, s23]
     exact ⟨_, rfl, fun _ => by simp [HA2.out], Kept.refl _ _⟩
    ·right
     have he' : a1 = false := eq_false_of_ne_true he
     exact ⟨by simp [Region.wanted, yielded, sg, he'], fun h => absurd h he⟩
   ·obtain ⟨_, s10, rfl⟩ := up.d 10 30 rfl rfl
    obtain ⟨v24, s24, hv24⟩ := up.d 24 44 rfl rfl
    have hv24 : a1 = true → v24 = _ := hv24
    obtain ⟨_, sg, rfl⟩ := up.d 2 22 rfl rfl
    left
    refine ⟨by simp [Region.wanted, yielded, sg], ?_⟩
    by_cases he : a1 = true
    ·have hv24 := hv24 he
     subst hv24
     simp [Oper.wp, go_sem, Act.eval, s10, s24, he]
     exact ⟨_, rfl, by simp [HA3.out, he], Kept.refl _ _⟩
    ·have he' : a1 = false := eq_false_of_ne_true he
     simp [Oper.wp, go_sem, Act.eval, s10, s24, he']
     exact ⟨_, rfl, by simp [HA3.out, he'], Kept.refl _ _⟩
   ·obtain ⟨_, s2, rfl⟩ := up.d 2 22 rfl rfl
    obtain ⟨_, s25, rfl⟩ := up.d 25 45 rfl rfl
    left
    refine ⟨by simp [Region.wanted], ?_⟩
    simp [Oper.wp, go_sem, Act.eval, s2, s25]
    exact ⟨_, rfl, rfl, Kept.refl _ _⟩
  ·intro vals wz hk hvv
   have h26 : vals 26 = _ := hvv 26 (by decide)
   have hk0 : Kept (fun _ => False) W wz := ((Kept.refl _ W).drew).trans' hk
   clear hvv
   simp only [putAll, Act.put, h26]
   simp only [Nat.reduceAdd, Nat.zero_add, List.setIfInBounds_toArray, List.set_cons_succ, List.set_cons_zero]
   go_wp2_with fail
   go_meet
   exact ⟨rfl, hk0⟩
 case rest =>
 obtain ⟨w2, hw2⟩ : ∃ x, x = wc := ⟨_, rfl⟩
 subst hw2
 obtain ⟨rfl, k2⟩ := hcut
 have HK2 : Hid (Kept (fun _ => False) w w2 ∧ Kept (fun _ => False) W w2) := ⟨HW.out.trans' k2, k2⟩
 cases a3 with
 | true =>
  go_wp2_with fail
  go_ret2
  refine HFIN.out _ 0 6 s ?_ (RTurn.stay ⟨⟨_, _, _, _, HR.out⟩, HFL.out⟩ HK2.out.1)
  unfold RSt.oneR
  rw [if_pos (by have h9 := HA.out; simpa using h9)]
 | false =>
 have HN1 : Hid (¬ (o.peer = s.me ∧ s.pr.k s.me < o.num)) := by
  intro hh
  have h9 := HA.out.2 hh
  cases h9
 clear HA HA1 HA2 HA3 d0 d4 d5 dme dp x0 x1 x2 x3 x4 x5 x6 x7 x8 zx zb zo
 have hb2 := HK2.out.2.heap HBOX.out (fun h => h)
 obtain ⟨x0, x1, x2, x3, x4, x5, x6, x7, x8⟩ := cells9 hb2
 have zx := lt_of_heap hb2
 have hwt := rwaits_any (HR.out.kept HK2.out.1 (fun _ _ h => h)) o g cpo ⟨o.packet.toArray⟩ (by omega)
 clear hb2 k2
 go_wp2_with fail
 refine hwt.mono ?_
 clear hwt x0 x1 x2 x3 x4 x5 x6 x7 x8 zx
 rintro e2 w3 ⟨wb, rfl, hwb, k3⟩
 have HK3 : Hid (Kept (fun _ => False) w w3 ∧ Kept (fun _ => False) W w3) := ⟨HK2.out.1.trans' k3, HK2.out.2.trans' k3⟩
 clear k3 HK2
 obtain ⟨c0, c1, c2, c3, c4, c5⟩ := HR.out.cells
 obtain ⟨lp', pa', pc', hlp', gp', _, hkp'⟩ := HR.out.opsCell o.peer HRO.out.peer
 have hkpe : s.pr.k o.peer = lp'.length := rk_at s _ _ hkp'
 have d0 := HK3.out.1.cell' c0 (fun h => h)
 have d4 := HK3.out.1.cell' c4 (fun h => h)
 have d5 := HK3.out.1.cell' c5 (fun h => h)
 have dme := d0
 have dp := HK3.out.1.cell' gp' (fun h => h)
 have hb3 := HK3.out.2.heap HBOX.out (fun h => h)
 obtain ⟨x0, x1, x2, x3, x4, x5, x6, x7, x8⟩ := cells9 hb3
 have zx := lt_of_heap hb3
 have zb : bp < w3.heap.size := World.block_lt_of_cell? w3 _ d0
 have zo : bo < w3.heap.size := World.block_lt_of_cell? w3 _ dp
 obtain ⟨b1, HB1⟩ : ∃ e : Bool, Hid (e = decide ((o.num : Int) ≤ (lp'.length : Int))) := ⟨_, rfl⟩
 obtain ⟨b2, HB2⟩ : ∃ e : Bool, Hid (e = (b1 || wb)) := ⟨_, rfl⟩
 have HB : Hid (b2 = true ↔ (o.num ≤ s.pr.k o.peer ∨ (∃ q ∈ s.pr.held, q.peer = o.peer ∧ q.num = o.num))) := by
  show _ ↔ _
  rw [HB2.out, HB1.out, Bool.or_eq_true, decide_eq_true_eq, hwb, hkpe]
  constructor
  ·rintro (h | h)
   ·exact Or.inl (by omega)
   ·exact Or.inr h
  ·rintro (h | h)
   ·exact Or.inl (by omega)
   ·exact Or.inr h
 clear hwb hkpe hkp' hlp' gp' c0 c1 c2 c3 c4 c5 hb3
 go_upto_region 5 with fail
 go_cut [64] (fun v wd => v = .bool b2 ∧ Kept (fun _ => False) w3 wd)
 case first =>
  refine wp_region_byG (by kernel_rfl) _ rfl (by kernel_rfl) (fun iz v wx => match iz with
   | 0 => v = .pointer (some ⟨bx, 2, none⟩)
   | 1 => v = .int .i64 (o.num : Nat)
   | 2 => v = .pointer (some ⟨bp, 0, none⟩)
   | 3 => v = .pointer (some ⟨bp, 0, none⟩)
   | 4 => v = .pointer (some ⟨bp, 4, none⟩)
   | 5 => v = .slice (some ⟨bo, 0, none⟩) s.ops.length s.ops.length
   | 6 => v = .pointer (some ⟨bx, 1, none⟩)
   | 7 => v = .int .i64 (o.peer : Nat)
   | 8 => v = .pointer (some ⟨bo, o.peer, none⟩)
   | 9 => v = .slice pa' lp'.length pc'
   | 10 => v = .int .i64 (lp'.length : Nat)
   | 11 => v = .bool b1
   | 12 => v = .bool b1
   | 13 => b1 = false → v = .bool wb
   | 14 => v = .bool b2
   | _ => True) ?_ ?_ ?_
  ·intro i v wa wb hv hk
   split at hv
   all_goals exact hv
  ·intro i o' hi a' wa up
   have hk' := up.kept
   have hkk : Kept (fun _ => False) w3 wa := ((Kept.refl _ w3).drew).trans' hk'
   have u0 := hkk.cell' d0 (fun h => h)
   have u4 := hkk.cell' d4 (fun h => h)
   have ume := hkk.cell' dme (fun h => h)
   have up_ := hkk.cell' dp (fun h => h)
   have t1 := hkk.cell' x1 (fun h => h)
   have t2 := hkk.cell' x2 (fun h => h)
   have hold : ∀ d : Nat, (d = 0 ∨ d = 6 ∨ d = 8) → a'.tmps[d]? = _ := fun d hd => up.old d (by
    intro j oj hj hjd
    exfalso
    rcases j with _ | _ | _ | _ | _ | _ | _ | _ | _ | _ | _ | _ | _ | _ | _ | j <;> simp at hj <;> subst hj <;> simp at hjd <;> omega)
   have o0 := hold 0 (by decide)
   have o6 := hold 6 (by decide)
   have o8 := hold 8 (by decide)
   simp at o0 o6 o8
   clear hold
   rcases i with _ | _ | _ | _ | _ | _ | _ | _ | _ | _ | _ | _ | _ | _ | _ | i
   all_goals simp only [List.getElem?_cons_zero, List.getElem?_cons_succ, List.getElem?_nil, Option.some.injEq, reduceCtorEq] at hi
   all_goals try subst hi
   ·left
    refine ⟨by simp [Region.wanted], ?_⟩
    simp [Oper.wp, go_sem, Act.eval, o6]
    exact ⟨_, rfl, rfl, Kept.refl _ _⟩
   ·obtain ⟨_, s0, rfl⟩ := up.d 0 50 rfl rfl
    left
    refine ⟨by simp [Region.wanted], ?_⟩
    simp [Oper.wp, go_sem, Act.eval, s0, t2]
    exact ⟨_, rfl, rfl, Kept.refl _ _⟩
   ·left
    refine ⟨by simp [Region.wanted], ?_⟩
    simp [Oper.wp, go_sem, Act.eval, o0]
    exact ⟨_, rfl, rfl, Kept.refl _ _⟩
   ·obtain ⟨_, s2, rfl⟩ := up.d 2 52 rfl rfl
    left
    refine ⟨by simp [Region.wanted], ?_⟩
    simp [Oper.wp, go_sem, Act.eval, s2]
    exact ⟨_, rfl, rfl, Kept.refl _ _⟩
   ·obtain ⟨_, s3, rfl⟩ := up.d 3 53 rfl rfl
    left
    refine ⟨by simp [Region.wanted], ?_⟩
    simp [Oper.wp, go_sem, Act.eval, s3]
    exact ⟨_, rfl, rfl, Kept.refl _ _⟩
   ·obtain ⟨_, s4, rfl⟩ := up.d 4 54 rfl rfl
    left
    refine ⟨by simp [Region.wanted], ?_⟩
    simp [Oper.wp, go_sem, Act.eval, s4, u4]
    exact ⟨_, rfl, rfl, Kept.refl _ _⟩
   ·left
    refine ⟨by simp [Region.wanted], ?_⟩
    simp [Oper.wp, go_sem, Act.eval, o6]
    exact ⟨_, rfl, rfl, Kept.refl _ _⟩
   ·obtain ⟨_, s6, rfl⟩ := up.d 6 56 rfl rfl
    left
    refine ⟨by simp [Region.wanted], ?_⟩
    simp [Oper.wp, go_sem, Act.eval, s6, t1]
    exact ⟨_, rfl, rfl, Kept.refl _ _⟩
   ·obtain ⟨_, s5, rfl⟩ := up.d 5 55 rfl rfl
    obtain ⟨_, s7, rfl⟩ := up.d 7 57 rfl rfl
    left
    refine ⟨by simp [Region.wanted], ?_⟩
    simp [Oper.wp, go_sem, Act.eval, s5, s7, hpi, hpl]
    exact ⟨_, rfl, rfl, Kept.refl _ _⟩
   ·obtain ⟨_, s8, rfl⟩ := up.d 8 58 rfl rfl
    left
    refine ⟨by simp [Region.wanted], ?_⟩
    simp [Oper.wp, go_sem, Act.eval, s8, up_]
    exact ⟨_, rfl, rfl, Kept.refl _ _⟩
   ·obtain ⟨_, s9, rfl⟩ := up.d 9 59 rfl rfl
    left
    refine ⟨by simp [Region.wanted], ?_⟩
    simp [Oper.wp, go_sem, Act.eval, s9]
    exact ⟨_, rfl, rfl, Kept.refl _ _⟩
   ·obtain ⟨_, s1, rfl⟩ := up.d 1 51 rfl rfl
    obtain ⟨_, s10, rfl⟩ := up.d 10 60 rfl rfl
    left
    refine ⟨by simp [Region.wanted], ?_⟩
    simp [Oper.wp, go_sem, Act.eval, s1, s10]
    exact ⟨_, rfl, by simp [HB1.out], Kept.refl _ _⟩
   ·obtain ⟨_, s11, rfl⟩ := up.d 11 61 rfl rfl
    left
    refine ⟨by simp [Region.wanted], ?_⟩
    simp [Oper.wp, go_sem, Act.eval, s11]
    exact ⟨_, rfl, rfl, Kept.refl _ _⟩
   ·obtain ⟨_, sg, rfl⟩ := up.d 12 62 rfl rfl
    by_cases he : b1 = false
    ·left
     refine ⟨by simp [Region.wanted, yielded, sg, he], ?_⟩
     simp [Oper.wp, go_sem, Act.eval, o8]
     exact ⟨_, rfl, fun _ => rfl, Kept.refl _ _⟩
    ·right
     have he' : b1 = true := eq_true_of_ne_false he
     exact ⟨by simp [Region.wanted, yielded, sg, he'], fun h => absurd h he⟩
   ·obtain ⟨_, s12, rfl⟩ := up.d 12 62 rfl rfl
    obtain ⟨v13, s13, hv13⟩ := up.d 13 63 rfl rfl
    have hv13 : b1 = false → v13 = _ := hv13
    left
    refine ⟨by simp [Region.wanted], ?_⟩
    by_cases he : b1 = false
    ·have hv13 := hv13 he
     subst hv13
     simp [Oper.wp, go_sem, Act.eval, s12, s13, he]
     exact ⟨_, rfl, by simp [HB2.out, he], Kept.refl _ _⟩
    ·have he' : b1 = true := eq_true_of_ne_false he
     simp [Oper.wp, go_sem, Act.eval, s12, s13, he']
     exact ⟨_, rfl, by simp [HB2.out, he'], Kept.refl _ _⟩
  ·intro vals wz hk hvv
   have h14 : vals 14 = _ := hvv 14 (by decide)
   have hk0 : Kept (fun _ => False) w3 wz := ((Kept.refl _ w3).drew).trans' hk
   clear hvv
   simp only [putAll, Act.put, h14]
   simp only [Nat.reduceAdd, Nat.zero_add, List.setIfInBounds_toArray, List.set_cons_succ, List.set_cons_zero]
   go_wp2_with fail
   go_meet
   exact ⟨rfl, hk0⟩
 case rest =>
 obtain ⟨w4, hw4⟩ : ∃ x, x = wc := ⟨_, rfl⟩
 subst hw4
 obtain ⟨rfl, k4⟩ := hcut
 have HK4 : Hid (Kept (fun _ => False) w w4 ∧ Kept (fun _ => False) W w4) := ⟨HK3.out.1.trans' k4, HK3.out.2.trans' k4⟩
 clear k4
 cases b2 with
 | true =>
  go_wp2_with fail
  go_ret2
  refine HFIN.out _ 0 0 s ?_ (RTurn.stay ⟨⟨_, _, _, _, HR.out⟩, HFL.out⟩ HK4.out.1)
  unfold RSt.oneR
  rw [if_neg HN1.out, if_pos (by have h9 := HB.out; simpa using h9)]
 | false =>
 have HN2 : Hid (¬ (o.num ≤ s.pr.k o.peer ∨ (∃ q ∈ s.pr.held, q.peer = o.peer ∧ q.num = o.num))) := by
  intro hh
  have h9 := HB.out.2 hh
  cases h9
 clear HB HB1 HB2 d0 d4 d5 dme dp x0 x1 x2 x3 x4 x5 x6 x7 x8 zx zb zo HK3
 have hb4 := HK4.out.2.heap HBOX.out (fun h => h)
 obtain ⟨x0, x1, x2, x3, x4, x5, x6, x7, x8⟩ := cells9 hb4
 have zx := lt_of_heap hb4
 have hcan := rcan_any (HR.out.kept HK4.out.1 (fun _ _ h => h)) o g cpo ⟨o.packet.toArray⟩ (fun i n hi => by rw [Lib.cell_of_heap (HK4.out.2.heap HSC.out.1 (fun h => h))]; exact HSC.out.2.1 i n hi) HRO.out.seen HRO.out.peer h8 HRO.out.num.1 HRO.out.num.2 (fun l hl => by have := HLEN.out l hl; omega)
 obtain ⟨cb, hcb⟩ : ∃ cb, s.pr.can o = cb := ⟨_, rfl⟩
 rw [hcb] at hcan
 have HCB : Hid (s.pr.can o = cb) := hcb
 clear hb4 hcb
 go_wp2_with fail
 refine hcan.mono ?_
 clear hcan x0 x1 x2 x3 x4 x5 x6 x7 x8 zx
 rintro e3 w5 ⟨rfl, k5⟩
 have HK5 : Hid (Kept (fun _ => False) w w5 ∧ Kept (fun _ => False) W w5) := ⟨HK4.out.1.trans' k5, HK4.out.2.trans' k5⟩
 clear k5 HK4
 have hb5 := HK5.out.2.heap HBOX.out (fun h => h)
 obtain ⟨x0, x1, x2, x3, x4, x5, x6, x7, x8⟩ := cells9 hb5
 have zx := lt_of_heap hb5
 clear hb5
 cases cb with
 | true =>
  have hdl := rdeliver_any (HR.out.kept HK5.out.1 (fun _ _ h => h)) (fun b hb => Nat.lt_of_lt_of_le (HFL.out b hb) HK5.out.1.size) (o, .slice (some ⟨g, 0, none⟩) o.seen.length cpo) ⟨_, _, _, rfl⟩ HRR.out HRO.out.peer h8 (fun l hl => by have := HLEN.out l hl; omega) hrl (by omega) (fun h => (HRO.out.begin_ h).2) HRO.out.clock.2 hsc
  simp only at hdl
  go_wp2_with fail
  refine hdl.mono ?_
  clear hdl x0 x1 x2 x3 x4 x5 x6 x7 x8 zx
  rintro e4 w6 ⟨rfl, F', rv', vs', hv', R', L', N', K'⟩
  have HT : Hid (RTurn bp F w w6 (s.deliverR (o, .slice (some ⟨g, 0, none⟩) o.seen.length cpo)).1) := RTurn.after HK5.out.1 (RTurn.of R' L' N' K')
  clear R' L' N' K'
  go_wp2_with fail
  go_ret2
  refine HFIN.out _ _ 0 _ ?_ HT.out
  unfold RSt.oneR
  rw [if_neg HN1.out, if_neg HN2.out, if_pos HCB.out]
 | false =>
 have HCN : Hid (¬ s.pr.can o = true) := by show ¬ _; rw [HCB.out]; decide
 clear HCB
 have d5 := HK5.out.1.cell' HR.out.cells.2.2.2.2.2 (fun h => h)
 have zb : bp < w5.heap.size := World.block_lt_of_cell? w5 _ d5
 by_cases h16 : 16 ≤ s.held.length
 ·have h16i : (16 : Int) ≤ (s.held.length : Int) := by omega
  have H16 : Hid (16 ≤ s.held.length) := h16
  clear h16
  go_wp2_with fail
  go_ret2
  refine HFIN.out _ 0 5 s ?_ (RTurn.stay ⟨⟨_, _, _, _, HR.out⟩, HFL.out⟩ HK5.out.1)
  unfold RSt.oneR
  rw [if_neg HN1.out, if_neg HN2.out, if_neg HCN.out, if_pos H16.out]
 ·have h16i : ¬ (16 : Int) ≤ (s.held.length : Int) := by omega
  have H16 : Hid (¬ 16 ≤ s.held.length) := h16
  have hSb : ¬ (Value.slice ha s.held.length hc).ownBlock = some bp := own_ne HR.out.heldAt HR.out.block (by decide)
  have hSl : ∀ k, (Value.slice ha s.held.length hc).ownBlock = some k → k < w.heap.size := fun k hk => (HR.out.heldAt.lt k hk).2
  have hSx : ¬ (Value.slice ha s.held.length hc).ownBlock = some bx := fun h => by have := hSl _ h; have := HBX.out; omega
  have hrow5 := ownsRow_kept HR.out.heldAt HK5.out.1 (fun _ _ h => h)
  have hs5 := HK5.out.1.size
  obtain ⟨n0, hn0⟩ : ∃ n0, s.held.length = n0 := ⟨_, rfl⟩
  clear h16
  go_upto_region 11 with fail
  refine wp_region_tailB (by kernel_rfl) 10 _ rfl (by kernel_rfl) (fun k => (Value.slice ha s.held.length hc).ownBlock = some k) 7 (fun iz v wx => match iz with
   | 0 => v = .pointer (some ⟨bp, 0, none⟩)
   | 1 => v = .pointer (some ⟨bp, 0, none⟩)
   | 2 => v = .pointer (some ⟨bp, 0, none⟩)
   | 3 => v = .pointer (some ⟨bp, 5, none⟩)
   | 4 => v = .slice ha s.held.length hc
   | 5 => v = .agg #[.bool o.ins, .int .i64 o.peer, .int .i64 o.num, .int .i64 o.clock, .slice (some ⟨g, 0, none⟩) o.seen.length cpo, .int .i64 o.nclock, .int .i64 o.npeer, .int .i64 o.char, .string ⟨o.packet.toArray⟩]
   | 6 => ∃ vb, v = .slice (some ⟨vb, 0, none⟩) 1 1 ∧ wx.heap[vb]? = some (.cells #[.bool o.ins, .int .i64 o.peer, .int .i64 o.num, .int .i64 o.clock, .slice (some ⟨g, 0, none⟩) o.seen.length cpo, .int .i64 o.nclock, .int .i64 o.npeer, .int .i64 o.char, .string ⟨o.packet.toArray⟩] 119 (0, 0)) ∧ w5.heap.size ≤ vb
   | 7 => wx.ownsRow 0 119 9 v (s.held.length + 1) (ropsCells (s.held ++ [(o, .slice (some ⟨g, 0, none⟩) o.seen.length cpo)])) ∧ (∀ k, v.ownBlock = some k → (Value.slice ha s.held.length hc).ownBlock = some k ∨ w5.heap.size ≤ k)
   | 8 => v = .pointer (some ⟨bp, 0, none⟩)
   | 9 => v = .pointer (some ⟨bp, 5, none⟩)
   | _ => True) ?_ ?_ ?_ ?_ ?_
  ·intro i v wa wb hv hk
   split at hv
   case h_7 =>
    obtain ⟨vb, h1, h2, h3⟩ := hv
    exact ⟨vb, h1, hk.heap h2 (fun h => h), h3⟩
   case h_8 =>
    exact ⟨ownsRow_kept hv.1 hk (fun _ _ h => h), hv.2⟩
   all_goals exact hv
  ·intro i v wa wb hi hv hk
   split at hv
   case h_7 =>
    obtain ⟨vb, h1, h2, h3⟩ := hv
    exact ⟨vb, h1, hk.heap h2 (fun h => by have := hSl _ h; omega), h3⟩
   case h_8 =>
    exact absurd rfl hi
   all_goals exact hv
  ·intro i o' hin his hi a' wa hk' up
   have hkk : Kept (fun k => (Value.slice ha s.held.length hc).ownBlock = some k) w5 wa := (((Kept.refl (fun _ => False) w5).drew).mono (fun _ _ h => h.elim)).trans' hk'
   have u5 := hkk.cell' d5 hSb
   have t0 := hkk.cell' x0 hSx
   have t1 := hkk.cell' x1 hSx
   have t2 := hkk.cell' x2 hSx
   have t3 := hkk.cell' x3 hSx
   have t4 := hkk.cell' x4 hSx
   have t5 := hkk.cell' x5 hSx
   have t6 := hkk.cell' x6 hSx
   have t7 := hkk.cell' x7 hSx
   have t8 := hkk.cell' x8 hSx
   have hold : ∀ d : Nat, (d = 0 ∨ d = 6) → a'.tmps[d]? = _ := fun d hd => up.old d (by
    intro j oj hj hjd
    exfalso
    rcases j with _ | _ | _ | _ | _ | _ | _ | _ | _ | _ | _ | j <;> simp at hj <;> subst hj <;> simp at hjd <;> omega)
   have o0 := hold 0 (by decide)
   have o6 := hold 6 (by decide)
   simp at o0 o6
   clear hold
   rcases i with _ | _ | _ | _ | _ | _ | _ | _ | _ | _ | i
   all_goals simp only [List.getElem?_cons_zero, List.getElem?_cons_succ, List.getElem?_nil, Option.some.injEq, reduceCtorEq] at hi
   all_goals try subst hi
   ·simp [Oper.wp, go_sem, Act.eval, o0]
    exact ⟨_, rfl, rfl, Kept.refl _ _⟩
   ·simp [Oper.wp, go_sem, Act.eval, o0]
    exact ⟨_, rfl, rfl, Kept.refl _ _⟩
   ·obtain ⟨_, s1, rfl⟩ := up.d 1 77 rfl rfl
    simp [Oper.wp, go_sem, Act.eval, s1]
    exact ⟨_, rfl, rfl, Kept.refl _ _⟩
   ·obtain ⟨_, s2, rfl⟩ := up.d 2 78 rfl rfl
    simp [Oper.wp, go_sem, Act.eval, s2]
    exact ⟨_, rfl, rfl, Kept.refl _ _⟩
   ·obtain ⟨_, s3, rfl⟩ := up.d 3 79 rfl rfl
    simp [Oper.wp, go_sem, Act.eval, s3, u5]
    exact ⟨_, rfl, rfl, Kept.refl _ _⟩
   ·simp [Oper.wp, go_sem, Act.eval, o6, t0, t1, t2, t3, t4, t5, t6, t7, t8]
    exact ⟨_, rfl, rfl, Kept.refl _ _⟩
   ·obtain ⟨_, s5, rfl⟩ := up.d 5 81 rfl rfl
    simp [Oper.wp, go_sem, Act.eval, s5]
    exact ⟨_, rfl, ⟨_, rfl, heap_alloc_new wa _, hkk.size⟩, (Kept.refl _ _).alloc _⟩
   ·exact absurd rfl his
   ·obtain ⟨_, s0, rfl⟩ := up.d 0 76 rfl rfl
    simp [Oper.wp, go_sem, Act.eval, s0]
    exact ⟨_, rfl, rfl, Kept.refl _ _⟩
   ·obtain ⟨_, s8, rfl⟩ := up.d 8 84 rfl rfl
    simp [Oper.wp, go_sem, Act.eval, s8]
    exact ⟨_, rfl, rfl, Kept.refl _ _⟩
   ·omega
  ·intro o' _ ho a' wa hk' up
   have hkk : Kept (fun k => (Value.slice ha s.held.length hc).ownBlock = some k) w5 wa := (((Kept.refl (fun _ => False) w5).drew).mono (fun _ _ h => h.elim)).trans' (hk'.mono (fun _ _ h => h.elim))
   have u5 := hkk.cell' d5 hSb
   have t0 := hkk.cell' x0 hSx
   have t1 := hkk.cell' x1 hSx
   have t2 := hkk.cell' x2 hSx
   have t3 := hkk.cell' x3 hSx
   have t4 := hkk.cell' x4 hSx
   have t5 := hkk.cell' x5 hSx
   have t6 := hkk.cell' x6 hSx
   have t7 := hkk.cell' x7 hSx
   have t8 := hkk.cell' x8 hSx
   simp only [List.getElem?_cons_zero, List.getElem?_cons_succ, List.getElem?_nil, Option.some.injEq, reduceCtorEq] at ho
   subst ho
   obtain ⟨_, s4, rfl⟩ := up.d 4 80 rfl rfl
   obtain ⟨v6, s6, hv6⟩ := up.d 6 82 rfl rfl
   obtain ⟨vb, hv6e, hvb, hvz⟩ := hv6
   subst hv6e
   have hkq : Kept (fun _ => False) w5 wa := ((Kept.refl _ w5).drew).trans' hk'
   obtain ⟨i0, hi, hz0, hz1, hz2⟩ := info_parts info_rop
   have hsrc : Src Tryz.prog 9 72 (.slice (some ⟨vb, 0, none⟩) 1 1) 1 (ropsCells [(o, .slice (some ⟨g, 0, none⟩) o.seen.length cpo)]) wa := by
    refine Src.ofSlice wa Tryz.underlying72 _ 1 1 _ rfl (fun j u hj => ?_) (fun u hu => ?_)
    ·rw [Addr.add_lit, Nat.zero_add, Lib.cell_of_heap hvb]
     simpa [ropsCells, opCells] using hj
    ·simp only [ropsCells, opCells, List.append_nil, List.mem_cons, List.not_mem_nil, or_false] at hu
     rcases hu with rfl | rfl | rfl | rfl | rfl | rfl | rfl | rfl | rfl <;> rfl
   obtain ⟨v', w', hrun, hown', hkk2, hnn⟩ := append_strong Tryz.prog wa 72 72 119 i0 _ 9 96 Tryz.underlying72 hi hz0 hz1 hz2 rfl (by decide) _ _ _ (ownsRow_kept hrow5 hkq (fun _ _ h => h)) _ 1 _ hsrc (by decide) (by unfold maxLen; omega) (by omega)
   refine Lib.wp_append_run wa _ _ _ _ rfl (.slice ha s.held.length hc) (.slice (some ⟨vb, 0, none⟩) 1 1) (by simp [Act.eval, s4]) (by simp [Act.eval, s6]) v' w' (hrun _) ?_
   refine ⟨v', rfl, ⟨?_, fun k hk2 => ?_⟩, hkk2⟩
   ·rw [ropsCells_append]; exact hown'
   ·rcases hnn k hk2 with h1 | h1
    ·exact Or.inl h1
    ·exact Or.inr (Nat.le_trans hkq.size h1)
  ·intro vals wz hk hvv
   have h9 : vals 9 = _ := hvv 9 (by decide)
   obtain ⟨h7, h7b⟩ := hvv 7 (by decide)
   obtain ⟨v', hv'⟩ : ∃ v', vals 7 = v' := ⟨_, rfl⟩
   rw [hv'] at h7 h7b
   obtain ⟨na, nc, rfl, _, _⟩ := own_slice h7
   have hkz : Kept (fun k => (Value.slice ha s.held.length hc).ownBlock = some k) w5 wz := (((Kept.refl (fun _ => False) w5).drew).mono (fun _ _ h => h.elim)).trans' hk
   have R5 := (HR.out.kept HK5.out.1 (fun _ _ h => h)).mono (F' := fun b => F b ∨ (w.heap.size ≤ b ∧ b < w5.heap.size)) (fun b hb => Or.inl hb)
   obtain ⟨A1, A2⟩ := R5.reheld (fun b hb => hb.elim (fun hb => Nat.lt_of_lt_of_le (HFL.out b hb) hs5) (fun hb => hb.2)) (s.held ++ [(o, .slice (some ⟨g, 0, none⟩) o.seen.length cpo)]) _ hkz (by rw [List.length_append]; exact h7) h7b (fun q hq => by
    rcases List.mem_append.1 hq with hq | hq
    ·have hsq := R5.seenAt q hq
     obtain ⟨g', cp', cur', eq', _, hg', _⟩ := hsq
     exact ((R5.seenAt q hq).mono (fun b hb => Or.inl hb)).kept hkz (fun b hb hs => by
      rw [eq'] at hb
      have hbg : g' = b := by simpa [Value.ownBlock] using hb
      subst hbg
      exact own_ne R5.heldAt hg' (by decide) hs)
    ·simp at hq
     subst hq
     have hgl := lt_of_heap (HK5.out.2.heap HSC.out.1 (fun h => h))
     exact ⟨g, cpo, cur, rfl, Or.inl (Or.inr ⟨HSC.out.2.2, hgl⟩), hkz.heap (HK5.out.2.heap HSC.out.1 (fun h => h)) (fun h => by have := hSl _ h; have := HSC.out.2.2; omega), HSC.out.2.1⟩)
   have HT : Hid (RTurn bp F w (wz.setCell ⟨bp, 5, none⟩ (.slice na (s.held.length + 1) nc)) { s with held := s.held ++ [(o, .slice (some ⟨g, 0, none⟩) o.seen.length cpo)] }) := RTurn.of A1.lim (fun b hb => hb.2) (fun b hb => by
    rcases hb.1 with (hb | hb) | hb
    ·exact Or.inl hb
    ·exact Or.inr hb.1
    ·exact Or.inr (by omega)) ((HK5.out.1.mono (fun _ _ h => h.elim) : Kept F w w5).trans A2 (fun b hb hs => by
    rcases hs with hs | hs
    ·exact hs
    ·omega))
   have u5 := hkz.cell' d5 hSb
   have zb2 : bp < wz.heap.size := Nat.lt_of_lt_of_le zb hkz.size
   have zf : ∀ j, wz.frozen? ⟨bp, j, none⟩ = false := Lib.frozen_of_heap (hkz.heap (HK5.out.1.heap HR.out.block (fun h => h)) hSb)
   clear hvv hk hkz h7 h7b A1 A2 R5 hrow5 x0 x1 x2 x3 x4 x5 x6 x7 x8 d5 hn0
   simp only [List.take_succ_cons, List.take_zero, List.drop_succ_cons, List.drop_zero, putAll, Act.put, h9, hv']
   simp only [Nat.reduceAdd, Nat.zero_add, List.setIfInBounds_toArray, List.set_cons_succ, List.set_cons_zero]
   go_wp2_with fail
   go_ret2
   refine HFIN.out _ 0 0 _ ?_ HT.out
   unfold RSt.oneR
   rw [if_neg HN1.out, if_neg HN2.out, if_neg HCN.out, if_neg H16.out]
theorem oneR_pr (t : RSt) (h : t.In) (o : OpeV) (ho : o.1.peer < t.ops.length) : (t.oneR o).1.pr = (t.pr.one o.1).1 ∧ (t.oneR o).2 = (t.pr.one o.1).2 := by
 unfold RSt.oneR Pr.one
 have e : t.pr.held.length = t.held.length := by simp [RSt.pr]
 have em : t.pr.me = t.me := rfl
 rw [e, em]
 by_cases h1 : o.1.peer = t.me ∧ t.pr.k t.me < o.1.num
 ·rw [if_pos h1, if_pos h1]; exact ⟨rfl, rfl⟩
 rw [if_neg h1, if_neg h1]
 by_cases h2 : o.1.num ≤ t.pr.k o.1.peer ∨ ∃ q ∈ t.pr.held, q.peer = o.1.peer ∧ q.num = o.1.num
 ·rw [if_pos h2, if_pos h2]; exact ⟨rfl, rfl⟩
 rw [if_neg h2, if_neg h2]
 by_cases h3 : t.pr.can o.1 = true
 ·rw [if_pos h3, if_pos h3]
  obtain ⟨d1, d2⟩ := deliverR_pr t h o ho
  exact ⟨d1, by simp only [d2]⟩
 rw [if_neg h3, if_neg h3]
 by_cases h4 : 16 ≤ t.held.length
 ·rw [if_pos h4, if_pos h4]; exact ⟨rfl, rfl⟩
 rw [if_neg h4, if_neg h4]
 refine ⟨?_, rfl⟩
 show (⟨t.me, t.clock, t.known, t.row, (t.held ++ [o]).map Prod.fst, _⟩ : Pr) = _
 rw [List.map_append]
 rfl
theorem Two.one {N M : Nat} {s : Pr} {t : RSt} (h : Two N M s t) {o : Ope} (ho : RightOp N o) (sv : Value) :
  Two N (M + 1) (s.oneF o).1 (t.oneR (o, sv)).1 ∧ (s.oneF o).2 = (t.oneR (o, sv)).2 := by
 have hp : o.peer < t.ops.length := by rw [h.opsN]; exact ho.peer
 obtain ⟨d1, d2⟩ := oneR_pr t h.in_ (o, sv) hp
 obtain ⟨a, b, c⟩ := oneF_sim h.alk h.inRow o
 obtain ⟨f1, f2, _⟩ := oneF_fit h.fit ho
 have hlen := h.len
 have hfew := h.few
 have key : ElsOk N (s.oneF o).1.row ∧ ksize (s.oneF o).1 ≤ M + 1 ∧ LogP (s.oneF o).1.log := by
  unfold Pr.oneF
  split
  ·exact ⟨h.els, Nat.le_succ_of_le hfew, h.lp⟩
  ·split
   ·exact ⟨h.els, Nat.le_succ_of_le hfew, h.lp⟩
   ·split
    ·rename_i hc
     have hd := (h.deliver ho ((can_iff s o).1 hc).1 sv).1
     exact ⟨hd.els, hd.few, hd.lp⟩
    ·split
     ·exact ⟨h.els, Nat.le_succ_of_le hfew, h.lp⟩
     ·refine ⟨h.els, ?_, h.lp⟩
      show s.known.sum + (waitIn s.held o).length ≤ _
      rw [waitIn_length]
      have : ksize s = s.known.sum + s.held.length := rfl
      omega
 exact ⟨⟨f1, by rw [d1]; exact a, b, key.1, by omega, key.2.1, key.2.2⟩, by rw [d2]; exact c⟩
theorem rone_two {N M : Nat} {s : Pr} {t : RSt} {bp : Nat} {F : Nat → Prop} {w : World} (h : RM w bp t F) (tw : Two N M s t) (hM : M ≤ 4294967000) (l : List UInt8) :
  Calls Tryz.prog 51 #[.pointer (some ⟨bp, 0, none⟩), .string ⟨l.toArray⟩] w fun e' w' => e' = .returned (.tuple #[.int .i64 ((recvF N s l).2.1 : Nat), .int .i64 (recvF N s l).2.2]) ∧ ∃ t', Two N (M + 1) (recvF N s l).1 t' ∧ RTurn bp F w w' t' := by
 obtain ⟨⟨rv, bo, vs, hv, hr⟩, hFl⟩ := h
 have hf := tw.fit
 have hon := tw.opsN
 have hhl := tw.heldLen
 have hmost := hf.most
 have hone := rone_any hr hFl l (by rw [hon]; exact hf.n1) (by rw [hon]; exact hf.n8) (by rw [hon, tw.me]; exact hf.me) (by rw [hon]; exact tw.heldR) (fun l hl => by have := tw.opsLen l hl; omega) (by rw [tw.row]; have := tw.rowLen; omega) (by omega) (by rw [tw.clock]; exact hf.clock)
 refine hone.mono ?_
 rintro e' w' (⟨hno, rfl, k⟩ | ⟨hyes, sv, rfl, ht⟩)
 ·rw [hon] at hno
  have e : recvF N s l = (s, 0, 6) := by unfold recvF; rw [if_neg hno]
  rw [e]
  exact ⟨rfl, t, tw.more (by omega), RTurn.stay ⟨⟨rv, bo, vs, hv, hr⟩, hFl⟩ k⟩
 ·rw [hon] at hyes ht ⊢
  have e : recvF N s l = s.oneF (fieldsOf N l) := by unfold recvF; rw [if_pos hyes]
  obtain ⟨h1, h2⟩ := tw.one (hyes.packet hf.n8).2 sv
  rw [e, h2]
  exact ⟨rfl, _, h1, ht⟩
def StrsW (w : World) (a : Option Addr) (ls : List (List UInt8)) : Prop := ∀ (i : Nat) (l : List UInt8), ls[i]? = some l → ∃ g off, a = some ⟨g, off, none⟩ ∧ w.cell? ⟨g, off + i, none⟩ = some (.string ⟨l.toArray⟩)
theorem RTurn.trans {bp : Nat} {F F' : Nat → Prop} {w w' w'' : World} {s' : RSt} (k : Kept F w w') (hF : ∀ k, F' k → F k ∨ w.heap.size ≤ k) (h : RTurn bp F' w' w'' s') : RTurn bp F w w'' s' := by
 obtain ⟨F2, a, b, c⟩ := h
 refine ⟨F2, a, k.trans b (fun i hi hs => ?_), fun i hi => ?_⟩
 ·rcases hF i hs with h | h
  ·exact h
  ·omega
 ·rcases c i hi with h | h
  ·exact hF i h
  ·exact Or.inr (Nat.le_trans k.size h)
def RRecvPost (N M : Nat) (s : Pr) (ls : List (List UInt8)) (bp : Nat) (F : Nat → Prop) (w : World) (e' : Ending) (w' : World) : Prop := e' = .returned (.tuple #[.int .i64 ((recvAllF N s ls).2.1 : Nat), .int .i64 (recvAllF N s ls).2.2]) ∧ ∃ t', Two N (M + ls.length) (recvAllF N s ls).1 t' ∧ RTurn bp F w w' t'
set_option maxHeartbeats 2000000 in
set_option maxRecDepth 100000 in
theorem rreceive_any {N M : Nat} {s : Pr} {t : RSt} {bp : Nat} {F : Nat → Prop} {w : World} (h : RM w bp t F) (tw : Two N M s t) (ls : List (List UInt8)) (hM : M + ls.length ≤ 4294967000) (a : Option Addr) (cp : Nat)
  (hs : StrsW w a ls) (hap : 0 < ls.length → ∀ ad, a = some ad → ¬ F ad.block) :
  Calls Tryz.prog 35 #[.pointer (some ⟨bp, 0, none⟩), .slice a ls.length cp] w (RRecvPost N M s ls bp F w) := by
 have hln : ls.length ≤ 4294967000 := by omega
 go_enter Tryz.func35, Tryz.ntmps35
 go_wp2
 go_loopw [6, 7] (fun d i wr => ∃ (k d' : Nat) (s' : Pr) (t' : RSt) (F' : Nat → Prop), k ≤ ls.length ∧ i = .int .i64 k ∧ d = .int .i64 d' ∧ d' ≤ 17 * k ∧ Hid (RM wr bp t' F' ∧ Two N (M + k) s' t' ∧ Kept F w wr ∧ (∀ j, F' j → F j ∨ w.heap.size ≤ j) ∧ (recvAllF N s ls).1 = (recvAllF N s' (ls.drop k)).1 ∧ (recvAllF N s ls).2.1 = d' + (recvAllF N s' (ls.drop k)).2.1 ∧ (recvAllF N s ls).2.2 = (recvAllF N s' (ls.drop k)).2.2)) (fun _ i _ => ls.length - (intOf i).toNat)
 case atStart => exact ⟨0, 0, s, t, F, Nat.zero_le _, rfl, rfl, Nat.zero_le _, h, tw, Kept.refl _ _, fun _ h => Or.inl h, rfl, by simp, rfl⟩
 case round =>
  obtain ⟨k, d', s', t', F', hk, rfl, rfl, hd, X⟩ := hrel
  by_cases hlt : k < ls.length
  ·obtain ⟨l, hek⟩ : ∃ l, ls[k]? = some l := ⟨_, List.getElem?_eq_getElem hlt⟩
   obtain ⟨g, off, rfl, hg⟩ := hs k l hek
   obtain ⟨x1, x2, x4, x5, x6, x7, x8⟩ := X.out
   have c0 : wr.cell? ⟨g, off + k, none⟩ = some (.string ⟨l.toArray⟩) := x4.cell' hg (hap (by omega) ⟨g, off, none⟩ rfl)
   have zg : g < wr.heap.size := World.block_lt_of_cell? wr _ c0
   have hdr : ls.drop k = l :: ls.drop (k + 1) := by rw [List.drop_eq_getElem_cons hlt, (List.getElem?_eq_some_iff.1 hek).2]
   rw [hdr] at x6 x7 x8
   have hro := rone_two x1 x2 (by omega) l
   obtain ⟨f1, f2, f3⟩ := recvF_fit x2.fit l
   have hE := recvF_err (N := N) s' l
   obtain ⟨q, hq⟩ : ∃ q, recvF N s' l = q := ⟨_, rfl⟩
   have hst : (recvAllF N s' (l :: ls.drop (k + 1))) = if q.2.2 = 0 then ((recvAllF N q.1 (ls.drop (k + 1))).1, q.2.1 + (recvAllF N q.1 (ls.drop (k + 1))).2.1, (recvAllF N q.1 (ls.drop (k + 1))).2.2) else q := by rw [← hq]; rfl
   rw [hq] at hro f3 hE
   rw [hst] at x6 x7 x8
   obtain ⟨ts, tn, te⟩ := q
   simp only [] at hro f3 hE x6 x7 x8
   have hki : (k : Int) < (ls.length : Int) := by omega
   have HY : Hid (Kept F w wr ∧ (∀ j, F' j → F j ∨ w.heap.size ≤ j)) := ⟨x4, x5⟩
   have H6 : Hid _ := x6
   have H7 : Hid _ := x7
   have H8 : Hid _ := x8
   clear X x1 x2 x4 x5 x6 x7 x8 hek hdr hq hst f1 f2 h tw
   go_wp2_with fail
   refine hro.mono ?_
   rintro e1 w1 ⟨rfl, hT⟩
   have HT : Hid _ := hT
   clear hT hro
   by_cases he : te = 0
   ·subst he
    have z6 := H6.out
    have z7 := H7.out
    have z8 := H8.out
    rw [if_pos rfl] at z6 z7 z8
    simp only [] at z6 z7 z8
    have I6 : Hid _ := z6
    have I7 : Hid _ := z7
    have I8 : Hid _ := z8
    clear H6 H7 H8 z6 z7 z8 hE
    go_wp2
    go_roundw
    case rel =>
     obtain ⟨t2, tw2, F2, p1, p2, p3⟩ := HT.out
     obtain ⟨y3, y4⟩ := HY.out
     refine ⟨k + 1, d' + tn, ts, t2, F2, by omega, by go_num, by go_num, by omega, p1, tw2, y3.trans p2 (fun i hi hs => ?_), fun j hj => ?_, I6.out, by rw [I7.out]; omega, I8.out⟩
     ·rcases y4 i hs with h | h
      ·exact h
      ·omega
     ·rcases p3 j hj with h | h
      ·exact y4 j h
      ·exact Or.inr (Nat.le_trans y3.size h)
    case measure => simp [intOf]; omega
   ·have e1 : (te != 0) = true := by simpa using he
    have z6 := H6.out
    have z7 := H7.out
    have z8 := H8.out
    rw [if_neg he] at z6 z7 z8
    simp only [] at z6 z7 z8
    have I6 : Hid _ := z6
    have I7 : Hid _ := z7
    have I8 : Hid _ := z8
    clear he H6 H7 H8 z6 z7 z8
    go_wp2
    go_ret2
    obtain ⟨t2, tw2, rt⟩ := HT.out
    refine ⟨?_, t2, ?_, RTurn.trans HY.out.1 HY.out.2 rt⟩
    ·rw [I7.out, I8.out]; go_num
    ·rw [I6.out]; exact tw2.more (by omega)
  ·have hke : k = ls.length := by omega
   obtain ⟨x1, x2, x4, x5, x6, x7, x8⟩ := X.out
   rw [hke, List.drop_length] at x6 x7 x8
   rw [hke] at x2
   have hki : ¬ (k : Int) < (ls.length : Int) := by omega
   have H6 : Hid _ := x6
   have H7 : Hid _ := x7
   have H8 : Hid _ := x8
   have H2 : Hid _ := x2
   have HT : Hid (RTurn bp F w wr t') := ⟨F', x1, x4, x5⟩
   clear X x1 x2 x4 x5 x6 x7 x8 hke
   go_wp2
   go_ret2
   refine ⟨?_, t', ?_, HT.out⟩
   ·rw [H7.out, H8.out]; rfl
   ·rw [H6.out]; exact H2.out
end Go.Proofs.YtgfafbanahiigaaGreat
