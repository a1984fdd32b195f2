import Derived.Test.YtgfafbanahiigaaGreatRB
import Derived.Test.YtgfafbanahiigaaGreatMA
import Derived.Test.YtgfafbanahiigaaGreatRC
import Derived.Test.YtgfafbanahiigaaGreatM9
import Derived.Test.YtgfafbanahiigaaGreatRK
set_option linter.unusedVariables false
set_option linter.unusedSimpArgs false
namespace Go.Proofs.YtgfafbanahiigaaGreat
open Go.RowKit Go.Chorus
def RSt.pr (t : RSt) : Pr := ⟨t.me, t.clock, t.known, t.row, t.held.map Prod.fst, t.ops.map (List.map Prod.fst)⟩
theorem rknown_apply (t : RSt) (o : OpeV) (h : o.1.peer < t.ops.length) : (t.apply o).known = t.known.set o.1.peer ((t.known.getD o.1.peer 0) + 1) := by
 show (t.ops.modify o.1.peer (· ++ [o])).map List.length = _
 have hk : t.known = t.ops.map List.length := rfl
 apply List.ext_getElem?
 intro i
 rw [List.getElem?_map, List.getElem?_modify, List.getElem?_set, hk]
 by_cases hip : o.1.peer = i
 ·subst hip
  rw [if_pos rfl, if_pos (by rw [List.length_map]; exact h)]
  rw [List.getD_eq_getElem?_getD, List.getElem?_map, List.getElem?_eq_getElem h]
  simp
 ·rw [if_neg hip, List.getElem?_map]
  simp [hip]
theorem pr_apply (t : RSt) (o : OpeV) (h : o.1.peer < t.ops.length) : (t.apply o).pr = t.pr.apply o.1 := by
 have e : (t.ops.modify o.1.peer (· ++ [o])).map (List.map Prod.fst) = (t.ops.map (List.map Prod.fst)).modify o.1.peer (· ++ [o.1]) := by
  apply List.ext_getElem?
  intro i
  rw [List.getElem?_map, List.getElem?_modify, List.getElem?_modify, List.getElem?_map]
  by_cases hip : o.1.peer = i
  ·simp [hip]; cases t.ops[i]? <;> simp
  ·simp [hip]
 show (⟨t.me, max t.clock o.1.clock, (t.apply o).known, _, _, (t.ops.modify o.1.peer (· ++ [o])).map (List.map Prod.fst)⟩ : Pr) = _
 rw [rknown_apply t o h, e]
 rfl
def RSt.take (t : RSt) (i : Nat) : RSt := { t with held := t.held.eraseIdx i }
theorem map_eraseIdx_fst (l : List OpeV) (i : Nat) : (l.eraseIdx i).map Prod.fst = (l.map Prod.fst).eraseIdx i := by
 induction l generalizing i with
 | nil => rfl
 | cons x r ih =>
  cases i with
  | zero => rfl
  | succ i => simp [ih]
theorem pr_take (t : RSt) (i : Nat) : (t.take i).pr = { t.pr with held := t.pr.held.eraseIdx i } := by
 show (⟨t.me, t.clock, t.known, t.row, (t.held.eraseIdx i).map Prod.fst, _⟩ : Pr) = _
 rw [map_eraseIdx_fst]
 rfl
def settleR : Nat → RSt → RSt × Nat
 | 0, t => (t, 0)
 | f + 1, t =>
  match t.pr.best with
  | none => (t, 0)
  | some (i, _) =>
   match t.held[i]? with
   | none => (t, 0)
   | some o => let r := settleR f ((t.take i).apply o); (r.1, r.2 + 1)
def RSt.deliverR (t : RSt) (o : OpeV) : RSt × Nat := let r := settleR t.held.length (t.apply o); (r.1, r.2 + 1)
def RSt.In (t : RSt) : Prop := ∀ o ∈ t.held, o.1.peer < t.ops.length
theorem In_take {t : RSt} (h : t.In) {i : Nat} {o : OpeV} : ((t.take i).apply o).In := by
 intro q hq
 show q.1.peer < (t.ops.modify o.1.peer (· ++ [o])).length
 rw [List.length_modify]
 exact h q (List.mem_of_mem_eraseIdx hq)
theorem best_held {t : RSt} {i : Nat} {o : Ope} (h : t.pr.best = some (i, o)) : ∃ q, t.held[i]? = some q ∧ q.1 = o := by
 have h1 := (best_some h).1
 have h2 : (t.held.map Prod.fst)[i]? = some o := h1
 rw [List.getElem?_map] at h2
 cases hq : t.held[i]? with
 | none => rw [hq] at h2; cases h2
 | some q => rw [hq] at h2; exact ⟨q, rfl, by simpa using h2⟩
theorem settleR_none {t : RSt} (h : t.pr.best = none) (f : Nat) : settleR f t = (t, 0) := by
 cases f with
 | zero => rfl
 | succ f => unfold settleR; rw [h]
theorem settleR_some {t : RSt} {i : Nat} {o : Ope} {q : OpeV} (h : t.pr.best = some (i, o)) (hq : t.held[i]? = some q) (f : Nat) : settleR (f + 1) t = ((settleR f ((t.take i).apply q)).1, (settleR f ((t.take i).apply q)).2 + 1) := by
 conv => lhs; unfold settleR
 rw [h]
 simp only [hq]
theorem settleR_pr : ∀ (f : Nat) (t : RSt), t.In → (settleR f t).1.pr = (Go.Chorus.settle f t.pr).1 ∧ (settleR f t).2 = (Go.Chorus.settle f t.pr).2 := by
 intro f
 induction f with
 | zero => intro t _; exact ⟨rfl, rfl⟩
 | succ f ih =>
  intro t h
  cases hb : t.pr.best with
  | none =>
   rw [settleR_none hb]
   unfold Go.Chorus.settle
   rw [hb]
   exact ⟨rfl, rfl⟩
  | some x =>
   obtain ⟨i, o⟩ := x
   obtain ⟨q, hq, rfl⟩ := best_held hb
   rw [settleR_some hb hq]
   obtain ⟨h1, h2⟩ := ih _ (In_take h (i := i) (o := q))
   have e : ((t.take i).apply q).pr = ({ t.pr with held := t.pr.held.eraseIdx i } : Pr).apply q.1 := by
    rw [pr_apply _ _ (by show q.1.peer < t.ops.length; exact h q (List.mem_of_getElem? hq)), pr_take]
   rw [e] at h1 h2
   unfold Go.Chorus.settle
   rw [hb]
   exact ⟨h1, by simp only [h2]⟩
theorem deliverR_pr (t : RSt) (h : t.In) (o : OpeV) (ho : o.1.peer < t.ops.length) : (t.deliverR o).1.pr = (t.pr.deliver o.1).1 ∧ (t.deliverR o).2 = (t.pr.deliver o.1).2 := by
 have hi : (t.apply o).In := by
  intro q hq
  show q.1.peer < (t.ops.modify o.1.peer (· ++ [o])).length
  rw [List.length_modify]
  exact h q hq
 obtain ⟨h1, h2⟩ := settleR_pr t.held.length (t.apply o) hi
 have e : t.pr.held.length = t.held.length := by simp [RSt.pr]
 unfold RSt.deliverR Pr.deliver
 rw [pr_apply t o ho] at h1 h2
 rw [e]
 exact ⟨h1, by simp only [h2]⟩
theorem bestGo_snoc_pos (s : Pr) (o : Ope) : ∀ (l : List Ope) (i : Nat) (b : Option (Nat × Ope)), (s.can o = true ∧ (∀ x, bestGo s l i b = some x → o.peer < x.2.peer)) → bestGo s (l ++ [o]) i b = some (i + l.length, o)
 | [], i, b, h => by
  show bestGo s [] (i + 1) _ = _
  exact if_pos h
 | x :: r, i, b, h => by
  have e : i + 1 + r.length = i + (x :: r).length := by rw [List.length_cons]; omega
  rw [← e]
  exact bestGo_snoc_pos s o r (i + 1) _ h
theorem bestGo_snoc_neg (s : Pr) (o : Ope) : ∀ (l : List Ope) (i : Nat) (b : Option (Nat × Ope)), ¬ (s.can o = true ∧ (∀ x, bestGo s l i b = some x → o.peer < x.2.peer)) → bestGo s (l ++ [o]) i b = bestGo s l i b
 | [], i, b, h => by
  show bestGo s [] (i + 1) _ = _
  exact if_neg h
 | x :: r, i, b, h => bestGo_snoc_neg s o r (i + 1) _ h
def bestTo (s : Pr) (k : Nat) : Option (Nat × Ope) := bestGo s (s.held.take k) 0 none
theorem bestTo_pos (s : Pr) (k : Nat) (o : Ope) (h : s.held[k]? = some o) (hc : s.can o = true) (hb : ∀ x, bestTo s k = some x → o.peer < x.2.peer) : bestTo s (k + 1) = some (k, o) := by
 unfold bestTo at *
 have hk : k < s.held.length := (List.getElem?_eq_some_iff.1 h).1
 have he : s.held[k] = o := (List.getElem?_eq_some_iff.1 h).2
 rw [List.take_succ_eq_append_getElem hk, he, bestGo_snoc_pos s o _ _ _ ⟨hc, hb⟩]
 have : 0 + (s.held.take k).length = k := by simp; omega
 rw [this]
theorem bestTo_neg (s : Pr) (k : Nat) (o : Ope) (h : s.held[k]? = some o) (hc : ¬ (s.can o = true ∧ ∀ x, bestTo s k = some x → o.peer < x.2.peer)) : bestTo s (k + 1) = bestTo s k := by
 unfold bestTo at *
 have hk : k < s.held.length := (List.getElem?_eq_some_iff.1 h).1
 have he : s.held[k] = o := (List.getElem?_eq_some_iff.1 h).2
 rw [List.take_succ_eq_append_getElem hk, he, bestGo_snoc_neg s o _ _ _ hc]
theorem bestTo_all (s : Pr) : bestTo s s.held.length = s.best := by
 unfold bestTo Pr.best
 rw [List.take_length]
theorem bestTo_at (s : Pr) (k : Nat) (x : Nat × Ope) (h : bestTo s k = some x) : x.1 < k ∧ s.held[x.1]? = some x.2 := by
 have h1 := ((bestGo_spec s (s.held.take k) 0 none (s.held.take k) (fun x hx => by cases hx) (fun j => by simp)).1 x h).1
 rw [List.getElem?_take] at h1
 split at h1
 ·next hlt => exact ⟨hlt, h1⟩
 ·cases h1
def canTo (s : Pr) (o : Ope) (k : Nat) : Prop := ∀ j, j < k → (j = o.peer → s.k j + 1 = o.num) ∧ sn o j ≤ s.k j
theorem canTo_all (s : Pr) (o : Ope) (k : Nat) (hk : k = s.known.length) (hp : o.peer < k) : s.can o = true ↔ canTo s o k := by
 subst hk
 rw [can_iff]
 constructor
 ·rintro ⟨h1, h2⟩ j hj
  exact ⟨fun e => by subst e; omega, h2 j hj⟩
 ·intro h
  exact ⟨((h o.peer hp).1 rfl).symm, fun j hj => (h j hj).2⟩
theorem can_no {s : Pr} {o : Ope} {j : Nat} (hj : j < s.known.length) (hp : o.peer < s.known.length) (h : ¬ ((j = o.peer → s.k j + 1 = o.num) ∧ sn o j ≤ s.k j)) : s.can o = false := by
 rw [Bool.eq_false_iff]
 intro hc
 exact h ((canTo_all s o _ rfl hp).1 hc j hj)
set_option maxHeartbeats 2000000 in
set_option maxRecDepth 100000 in
theorem rcan_any {w : World} {F : Nat → Prop} {bp : Nat} {s : RSt} {rv : Value} {bo : Nat} {vs : List Value} {hv : Value} (h : RefAt w F bp s rv bo vs hv) (o : Ope) (g cp : Nat) (pk : ByteArray) (hs : ∀ (i n : Nat), o.seen[i]? = some n → w.cell? ⟨g, i, none⟩ = some (.int .i64 (n : Int))) (hsl : o.seen.length = s.ops.length) (hp : o.peer < s.ops.length) (h8 : s.ops.length ≤ 8) (hn1 : 1 ≤ o.num) (hn2 : o.num < 4294967296) (hlen : ∀ l ∈ s.ops, l.length ≤ 4294967296) :
  Calls Tryz.prog 68 #[.pointer (some ⟨bp, 0, none⟩), .agg #[.bool o.ins, .int .i64 o.peer, .int .i64 o.num, .int .i64 o.clock, .slice (some ⟨g, 0, none⟩) o.seen.length cp, .int .i64 o.nclock, .int .i64 o.npeer, .int .i64 o.char, .string pk]] w fun e' w' => e' = .returned (.bool (s.pr.can o)) ∧ Kept (fun _ => False) w w' := by
 obtain ⟨c0, c1, c2, c3, c4, c5⟩ := h.cells
 have hops := h.opsCell
 have hkl : s.pr.known.length = s.ops.length := by simp [RSt.pr, RSt.known]
 have HSL : Hid (o.seen.length = s.ops.length) := hsl
 clear h c0 c2 c3 c5 hsl
 obtain ⟨W, hWe⟩ : ∃ W, W = w.alloc (.cells #[.bool o.ins, .int .i64 o.peer, .int .i64 o.num, .int .i64 o.clock, .slice (some ⟨g, 0, none⟩) o.seen.length cp, .int .i64 o.nclock, .int .i64 o.npeer, .int .i64 o.char, .string pk] 119) := ⟨_, rfl⟩
 have hW : Kept (fun _ => False) w W := by rw [hWe]; exact (Kept.refl _ _).alloc _
 have hbox : W.heap[w.heap.size]? = some (.cells #[.bool o.ins, .int .i64 o.peer, .int .i64 o.num, .int .i64 o.clock, .slice (some ⟨g, 0, none⟩) o.seen.length cp, .int .i64 o.nclock, .int .i64 o.npeer, .int .i64 o.char, .string pk] 119 (0, 0)) := by rw [hWe]; exact heap_alloc_new w _
 go_enter Tryz.func68, Tryz.ntmps68
 go_wp2
 rw [← hWe]
 clear hWe
 go_loopw [5] (fun i wr => ∃ k : Nat, k ≤ s.ops.length ∧ i = .int .i64 k ∧ Kept (fun _ => False) W wr ∧ Hid (canTo s.pr o k)) (fun i _ => s.ops.length - (intOf i).toNat)
 case atStart => exact ⟨0, Nat.zero_le _, rfl, Kept.refl _ _, fun j hj => absurd hj (Nat.not_lt_zero _)⟩
 case round =>
  obtain ⟨k, hk, rfl, hkp, hc⟩ := hrel
  have hkw := hW.trans' hkp
  have d1 := hkw.cell' c1 (fun h => h)
  have d4 := hkw.cell' c4 (fun h => h)
  have hb1 := hkp.heap hbox (fun h => h)
  have b1 : wr.cell? ⟨w.heap.size, 1, none⟩ = some (.int .i64 o.peer) := by rw [Lib.cell_of_heap hb1]; rfl
  have b2 : wr.cell? ⟨w.heap.size, 2, none⟩ = some (.int .i64 o.num) := by rw [Lib.cell_of_heap hb1]; rfl
  have b4 : wr.cell? ⟨w.heap.size, 4, none⟩ = some (.slice (some ⟨g, 0, none⟩) o.seen.length cp) := by rw [Lib.cell_of_heap hb1]; rfl
  have hbz : bp < wr.heap.size := World.block_lt_of_cell? wr _ d1
  have hxz := lt_of_heap hb1
  have HK : Hid (Kept (fun _ => False) w wr) := hkw
  have HK1 : Hid (Kept (fun _ => False) W wr) := hkp
  by_cases hlt : k < s.ops.length
  ·obtain ⟨l, a, lc, hl, g0, _, hkk⟩ := hops k hlt
   have g1 := hkw.cell' g0 (fun h => h)
   have hoz : bo < wr.heap.size := World.block_lt_of_cell? wr _ g1
   obtain ⟨q, hq⟩ : ∃ q, o.seen[k]? = some q := ⟨_, List.getElem?_eq_getElem (by rw [HSL.out]; exact hlt)⟩
   have gq := hkw.cell' (hs k q hq) (fun h => h)
   have hgz : g < wr.heap.size := World.block_lt_of_cell? wr _ gq
   have hll := hlen l (List.mem_of_getElem? hl)
   have hsk : Hid (s.pr.k k = l.length ∧ sn o k = q) := by
    refine ⟨?_, ?_⟩
    ·unfold Pr.k
     rw [List.getD_eq_getElem?_getD]
     show (s.known[k]?).getD 0 = _
     rw [hkk]; rfl
    ·unfold sn
     rw [List.getD_eq_getElem?_getD, hq]; rfl
   have hki : (k : Int) < (s.ops.length : Int) := by omega
   have hks : (k : Int) < (o.seen.length : Int) := by rw [HSL.out]; exact hki
   have HC : Hid (∀ (h1 : k = o.peer → l.length + 1 = o.num) (h2 : q ≤ l.length), canTo s.pr o (k + 1)) := by
    intro h1 h2 j hj
    by_cases hjk : j = k
    ·subst hjk
     rw [hsk.out.1, hsk.out.2]
     exact ⟨h1, h2⟩
    ·exact hc.out j (by omega)
   have HN : Hid (∀ (h1 : ¬ ((k = o.peer → l.length + 1 = o.num) ∧ q ≤ l.length)), s.pr.can o = false) := by
    intro h1
    refine can_no (j := k) (by omega) (by omega) ?_
    rw [hsk.out.1, hsk.out.2]
    exact h1
   clear hops hs hq hl hkk hsk hkw hkp hb1 hbox g0 hc hlen hW c1 c4 hkl
   by_cases hkp : k = o.peer
   ·have hkb : ((k : Int) == (o.peer : Int)) = true := by rw [beq_iff_eq]; omega
    by_cases hnum : l.length + 1 = o.num
    ·have hnb : (((l.length : Nat) : Int) != (o.num : Int) - 1) = false := by rw [bne_eq_false_iff_eq]; omega
     by_cases hseen : q ≤ l.length
     ·have hsb : decide (((l.length : Nat) : Int) < (q : Int)) = false := by rw [decide_eq_false_iff_not]; omega
      have HE : Hid (canTo s.pr o (k + 1)) := HC.out (fun _ => hnum) hseen
      clear HC HN
      subst hkp
      go_wp2
      go_quiet (fail)
      go_wp2
      go_quiet (fail)
      go_wp2
      go_roundw
      case rel => exact ⟨_, by omega, by go_num, HK1.out.drewN _, HE⟩
      case measure => simp [intOf]; omega
     ·have hsb : ((l.length : Nat) : Int) < (q : Int) := by omega
      have HE : Hid (s.pr.can o = false) := HN.out (fun h => hseen h.2)
      clear HC HN
      subst hkp
      go_wp2
      go_quiet (fail)
      go_wp2
      go_quiet (fail)
      go_wp2
      go_ret
      exact ⟨ret_bool HE.out.symm, (HK.out.drewN _).drewN _⟩
    ·have hnb : (((l.length : Nat) : Int) != (o.num : Int) - 1) = true := by rw [bne_iff_ne]; omega
     have HE : Hid (s.pr.can o = false) := HN.out (fun h => hnum (h.1 hkp))
     clear HC HN
     subst hkp
     go_wp2
     go_quiet (fail)
     go_wp2
     go_ret
     exact ⟨ret_bool HE.out.symm, HK.out.drewN _⟩
   ·have hkb : ((k : Int) == (o.peer : Int)) = false := by rw [beq_eq_false_iff_ne]; omega
    by_cases hseen : q ≤ l.length
    ·have hsb : decide (((l.length : Nat) : Int) < (q : Int)) = false := by rw [decide_eq_false_iff_not]; omega
     have HE : Hid (canTo s.pr o (k + 1)) := HC.out (fun e => absurd e hkp) hseen
     clear HC HN
     go_wp2
     go_quiet (fail)
     go_wp2
     go_quiet (fail)
     go_wp2
     go_roundw
     case rel => exact ⟨_, by omega, by go_num, HK1.out.drewN _, HE⟩
     case measure => simp [intOf]; omega
    ·have hsb : ((l.length : Nat) : Int) < (q : Int) := by omega
     have HE : Hid (s.pr.can o = false) := HN.out (fun h => hseen h.2)
     clear HC HN
     go_wp2
     go_quiet (fail)
     go_wp2
     go_quiet (fail)
     go_wp2
     go_ret
     exact ⟨ret_bool HE.out.symm, (HK.out.drewN _).drewN _⟩
  ·have hke : k = s.ops.length := by omega
   have HE : Hid (s.pr.can o = true) := (canTo_all s.pr o k (by omega) (by omega)).2 hc.out
   clear hops hs hkw hkp hb1 hbox hc hlen hW c1 c4 hkl
   go_wp2
   go_ret
   exact ⟨ret_bool HE.out.symm, HK.out⟩
theorem ropsCells_at (es : List OpeV) (i : Nat) (e : OpeV) (h : es[i]? = some e) (j : Nat) (hj : j < 9) : (ropsCells es)[i * 9 + j]? = (opCells e)[j]? := by
 induction es generalizing i with
 | nil => simp at h
 | cons x r ih =>
  cases i with
  | zero =>
   simp at h; subst h
   simp only [ropsCells, Nat.zero_mul, Nat.zero_add]
   rw [List.getElem?_append_left (by simp [opCells]; omega)]
  | succ i =>
   simp only [ropsCells]
   rw [List.getElem?_append_right (by simp [opCells]; omega)]
   have : (i + 1) * 9 + j - (opCells x).length = i * 9 + j := by simp [opCells]; omega
   rw [this]
   exact ih i (by simpa using h)
def ROpsAt (w : World) (g : Nat) (es : List OpeV) : Prop := ∀ (i : Nat) (o : OpeV), es[i]? = some o → ∀ (j : Nat) (u : Value), (opCells o)[j]? = some u → w.cell? ⟨g, i * 9 + j, none⟩ = some u
theorem ROpsAt.kept {S : Nat → Prop} {w w' : World} {g : Nat} {es : List OpeV} (h : ROpsAt w g es) (k : Kept S w w') (hS : ¬ S g) : ROpsAt w' g es := fun i o hi j u hu => k.cell' (h i o hi j u hu) hS
theorem rops_of_own {w : World} {hv : Value} {es : List OpeV} (h : w.ownsRow 0 119 9 hv es.length (ropsCells es)) : ∃ a cp, hv = .slice a es.length cp ∧ es.length ≤ cp ∧ cp ≤ maxLen ∧ (a = none → es = []) ∧ (∀ ad, a = some ad → ∃ g, ad = ⟨g, 0, none⟩ ∧ ROpsAt w g es) := by
 rcases h.2 with ⟨rfl, h0⟩ | ⟨g, cap, cur, rfl, _, hg, hnc, hm, _, htk⟩
 ·exact ⟨none, 0, by rw [h0], by omega, by unfold maxLen; omega, fun _ => List.length_eq_zero_iff.1 h0, fun ad h => by cases h⟩
 ·refine ⟨_, cap, rfl, hnc, hm, ?_, ?_⟩
  ·intro hh; cases hh
  intro ad had
  cases had
  refine ⟨g, rfl, fun i o hi j u hu => ?_⟩
  have hj : j < 9 := by
   have := (List.getElem?_eq_some_iff.1 hu).1
   simpa [opCells] using this
  have hil : i < es.length := (List.getElem?_eq_some_iff.1 hi).1
  rw [Lib.cell_of_heap hg, ← Array.getElem?_toList]
  have h4 := ropsCells_at es i o hi j hj
  rw [hu, ← htk, List.getElem?_take] at h4
  split at h4
  ·exact h4
  ·cases h4
def bestI : Option (Nat × Ope) → Int
 | some x => (x.1 : Int)
 | none => -1
set_option maxHeartbeats 2000000 in
set_option maxRecDepth 100000 in
theorem rfirst_any {w : World} {F : Nat → Prop} {bp : Nat} {s : RSt} {rv : Value} {bo : Nat} {vs : List Value} {hv : Value} (h : RefAt w F bp s rv bo vs hv) (hR : ∀ o ∈ s.held, RightOp s.ops.length o.1) (h8 : s.ops.length ≤ 8) (hlen : ∀ l ∈ s.ops, l.length ≤ 4294967296) (hhl : s.held.length ≤ 65536) :
  Calls Tryz.prog 84 #[.pointer (some ⟨bp, 0, none⟩)] w fun e' w' => e' = .returned (.int .i64 (bestI s.pr.best)) ∧ Kept (fun _ => False) w w' := by
 obtain ⟨c0, c1, c2, c3, c4, c5⟩ := h.cells
 have bz := lt_of_heap h.block
 obtain ⟨a, cp, hve, _, _, ha0, ha1⟩ := rops_of_own h.heldAt
 subst hve
 have HR : Hid (RefAt w F bp s rv bo vs (.slice a s.held.length cp)) := h
 have hpl : Hid (s.pr.held.length = s.held.length) := by show s.pr.held.length = _; simp [RSt.pr]
 have hph : Hid (∀ (k : Nat) (o : OpeV), s.held[k]? = some o → s.pr.held[k]? = some o.1) := fun k o hk => by
  show (s.held.map Prod.fst)[k]? = _
  rw [List.getElem?_map, hk]; rfl
 have hall : Hid (bestTo s.pr s.held.length = s.pr.best) := by
  show _ = _
  rw [← hpl.out]
  exact bestTo_all s.pr
 have hself : Hid (∀ (k : Nat) (x : Nat × Ope), bestTo s.pr k = some x → x.1 < k ∧ ∃ q, s.held[x.1]? = some q ∧ q.1 = x.2) := fun k x hx => by
  obtain ⟨h1, h2⟩ := bestTo_at s.pr k x hx
  refine ⟨h1, ?_⟩
  have h3 : (s.held.map Prod.fst)[x.1]? = some x.2 := h2
  rw [List.getElem?_map] at h3
  cases hq : s.held[x.1]? with
  | none => rw [hq] at h3; cases h3
  | some q => rw [hq] at h3; exact ⟨q, rfl, by simpa using h3⟩
 clear h c0 c1 c2 c3 c4
 go_enter Tryz.func84, Tryz.ntmps84
 go_wp2_with fail
 go_loopw [3, 4] (fun b i wr => ∃ k : Nat, k ≤ s.held.length ∧ i = .int .i64 k ∧ b = .int .i64 (bestI (bestTo s.pr k)) ∧ Kept (fun _ => False) w wr) (fun _ i _ => s.held.length - (intOf i).toNat)
 case atStart => exact ⟨0, Nat.zero_le _, rfl, rfl, Kept.refl _ _⟩
 case round =>
  obtain ⟨k, hk, rfl, rfl, hkp⟩ := hrel
  have d5 := hkp.cell' c5 (fun h => h)
  have hz : bp < wr.heap.size := World.block_lt_of_cell? wr _ d5
  by_cases hlt : k < s.held.length
  ·obtain ⟨o, ho⟩ : ∃ o, s.held[k]? = some o := ⟨_, List.getElem?_eq_getElem hlt⟩
   obtain ⟨gh, rfl, hcell⟩ : ∃ g, a = some ⟨g, 0, none⟩ ∧ ROpsAt w g s.held := by
    cases a with
    | none => exfalso; rw [ha0 rfl] at hlt; simp at hlt
    | some ad => obtain ⟨g, rfl, hh⟩ := ha1 ad rfl; exact ⟨g, rfl, hh⟩
   have hcw := hcell.kept hkp (fun h => h)
   have hRO := hR o (List.mem_of_getElem? ho)
   obtain ⟨g, gc, cur, hsv, _, hsg, hsc⟩ := HR.out.seenAt o (List.mem_of_getElem? ho)
   have hcan := fun (W : World) (hW : Kept (fun _ => False) w W) => rcan_any (HR.out.kept hW (fun _ _ h => h)) o.1 g gc ⟨o.1.packet.toArray⟩ (fun i n hi => by rw [Lib.cell_of_heap (hW.heap hsg (fun h => h))]; exact hsc i n hi) hRO.seen hRO.peer h8 hRO.num.1 hRO.num.2 hlen
   have hcan1 := hcan wr hkp
   have x0 := hcw k o ho 0 _ rfl
   have x1 := hcw k o ho 1 _ rfl
   have x2 := hcw k o ho 2 _ rfl
   have x3 := hcw k o ho 3 _ rfl
   have x4 := hcw k o ho 4 _ rfl
   have x5 := hcw k o ho 5 _ rfl
   have x6 := hcw k o ho 6 _ rfl
   have x7 := hcw k o ho 7 _ rfl
   have x8 := hcw k o ho 8 _ rfl
   simp only [Nat.add_zero] at x0
   rw [hsv] at x4
   have xz : gh < wr.heap.size := World.block_lt_of_cell? wr _ x0
   have hki : (k : Int) < (s.held.length : Int) := by omega
   have HB : Hid (∀ x, bestTo s.pr k = some x → x.1 < k ∧ ∃ q, s.held[x.1]? = some q ∧ q.1 = x.2) := hself.out k
   have HP : Hid (s.pr.held[k]? = some o.1) := hph.out k o ho
   have HK : Hid (Kept (fun _ => False) w wr) := hkp
   have HCW : Hid (ROpsAt wr gh s.held) := hcw
   clear hcan hsc hsg hsv hR hRO hlen ha0 ha1 hcell hcw ho hself hph hpl hkp c5 bz
   cases hc : s.pr.can o.1 with
   | false =>
    have HE : Hid (bestTo s.pr (k + 1) = bestTo s.pr k) := bestTo_neg s.pr k o.1 HP.out (fun hh => by rw [hc] at hh; cases hh.1)
    rw [hc] at hcan1
    clear hc HB HP
    rw [← HE.out]
    clear HE
    obtain ⟨B, hB⟩ : ∃ B, bestI (bestTo s.pr (k + 1)) = B := ⟨_, rfl⟩
    rw [hB]
    have HB : Hid (bestI (bestTo s.pr (k + 1)) = B) := hB
    clear hB
    go_wp2_with fail
    refine hcan1.mono ?_
    rintro e1 w1 ⟨rfl, k1⟩
    have HK1 : Hid (Kept (fun _ => False) w w1) := HK.out.trans' k1
    clear hcan1 k1 x0 x1 x2 x3 x4 x5 x6 x7 x8 d5 hz xz
    go_wp2_with fail
    go_quiet (fail)
    go_wp2
    go_roundw
    case rel => exact ⟨k + 1, by omega, by go_num, by rw [HB.out], HK1.out.drewN _⟩
    case measure => simp [intOf]; omega
   | true =>
    rw [hc] at hcan1
    have HCT : Hid (s.pr.can o.1 = true) := hc
    clear hc
    cases hb : bestTo s.pr k with
    | none =>
     have HE : Hid (bestTo s.pr (k + 1) = some (k, o.1)) := bestTo_pos s.pr k o.1 HP.out HCT.out (fun x hx => by rw [hb] at hx; cases hx)
     clear hb HB HP
     go_wp2_with fail
     refine hcan1.mono ?_
     rintro e1 w1 ⟨rfl, k1⟩
     have HK1 : Hid (Kept (fun _ => False) w w1) := HK.out.trans' k1
     clear hcan1 k1 x0 x1 x2 x3 x4 x5 x6 x7 x8 d5 hz xz
     simp only [bestI]
     have hlt0 : decide ((-1 : Int) < 0) = true := by decide
     go_wp2_with fail
     go_quiet (fail)
     go_wp2
     go_roundw
     case rel => exact ⟨k + 1, by omega, by go_num, by rw [HE.out]; rfl, HK1.out.drewN _⟩
     case measure => simp [intOf]; omega
    | some x =>
     obtain ⟨hxk, q, hq, hqx⟩ := HB.out x hb
     have y1 := HCW.out x.1 q hq 1 _ rfl
     have hxi : (x.1 : Int) < (s.held.length : Int) := by omega
     have hlt0 : decide ((x.1 : Int) < 0) = false := by rw [decide_eq_false_iff_not]; omega
     have hpq : Hid (x.2.peer = q.1.peer) := by show _ = _; rw [hqx]
     have HBK : Hid (bestTo s.pr k = some x) := hb
     clear hq hqx HB hb
     by_cases hlp : o.1.peer < q.1.peer
     ·have HE : Hid (bestTo s.pr (k + 1) = some (k, o.1)) := bestTo_pos s.pr k o.1 HP.out HCT.out (fun y hy => by rw [HBK.out] at hy; cases hy; rw [hpq.out]; exact hlp)
      have hlpi : (o.1.peer : Int) < (q.1.peer : Int) := by omega
      clear HP hlp
      go_wp2_with fail
      refine hcan1.mono ?_
      rintro e1 w1 ⟨rfl, k1⟩
      have HK1 : Hid (Kept (fun _ => False) w w1) := HK.out.trans' k1
      replace x1 := k1.cell' x1 (fun h => h)
      replace y1 := k1.cell' y1 (fun h => h)
      replace d5 := k1.cell' d5 (fun h => h)
      have hz1 : bp < w1.heap.size := World.block_lt_of_cell? w1 _ d5
      have xz1 : gh < w1.heap.size := World.block_lt_of_cell? w1 _ x1
      clear hcan1 k1 x0 x2 x3 x4 x5 x6 x7 x8 hz xz
      simp only [bestI]
      go_wp2_with fail
      go_quiet (fail)
      go_wp2
      go_roundw
      case rel => exact ⟨k + 1, by omega, by go_num, by rw [HE.out]; rfl, HK1.out.drewN _⟩
      case measure => simp [intOf]; omega
     ·have HE : Hid (bestTo s.pr (k + 1) = some x) := by
       show _ = _
       rw [bestTo_neg s.pr k o.1 HP.out (fun hh => by have := hh.2 x HBK.out; rw [hpq.out] at this; exact hlp this)]
       exact HBK.out
      have hlpi : decide ((o.1.peer : Int) < (q.1.peer : Int)) = false := by rw [decide_eq_false_iff_not]; omega
      have hlpn : decide (o.1.peer < q.1.peer) = false := by rw [decide_eq_false_iff_not]; exact hlp
      have hlpj : ¬ (o.1.peer : Int) < (q.1.peer : Int) := by omega
      clear HP
      go_wp2_with fail
      refine hcan1.mono ?_
      rintro e1 w1 ⟨rfl, k1⟩
      have HK1 : Hid (Kept (fun _ => False) w w1) := HK.out.trans' k1
      replace x1 := k1.cell' x1 (fun h => h)
      replace y1 := k1.cell' y1 (fun h => h)
      replace d5 := k1.cell' d5 (fun h => h)
      have hz1 : bp < w1.heap.size := World.block_lt_of_cell? w1 _ d5
      have xz1 : gh < w1.heap.size := World.block_lt_of_cell? w1 _ x1
      clear hcan1 k1 x0 x2 x3 x4 x5 x6 x7 x8 hz xz
      simp only [bestI]
      go_wp2_with fail
      go_quiet (fail)
      go_wp2
      go_roundw
      case rel => exact ⟨k + 1, by omega, by go_num, by rw [HE.out]; rfl, HK1.out.drewN _⟩
      case measure => simp [intOf]; omega
  ·have hke : k = s.held.length := by omega
   have HE : Hid (bestTo s.pr k = s.pr.best) := by rw [hke]; exact hall.out
   have HK : Hid (Kept (fun _ => False) w wr) := hkp
   clear hkp ha0 ha1 hR hlen hself hph hpl hall c5 bz HR
   subst hke
   rw [HE.out]
   go_wp2
   go_ret
   exact ⟨rfl, HK.out⟩
theorem RSeenAt.mono {w : World} {F F' : Nat → Prop} {v : Value} {l : List Nat} (h : RSeenAt w F v l) (hF : ∀ b, F b → F' b) : RSeenAt w F' v l := by
 obtain ⟨g, cp, cur, h1, h2, h3, h4⟩ := h
 exact ⟨g, cp, cur, h1, hF _ h2, h3, h4⟩
theorem RSeenAt.kept {S : Nat → Prop} {w w' : World} {F : Nat → Prop} {v : Value} {l : List Nat} (h : RSeenAt w F v l) (k : Kept S w w') (hS : ∀ b, v.ownBlock = some b → ¬ S b) : RSeenAt w' F v l := by
 obtain ⟨g, cp, cur, h1, h2, h3, h4⟩ := h
 exact ⟨g, cp, cur, h1, h2, k.heap h3 (hS g (by rw [h1]; rfl)), h4⟩
theorem RefAt.reheld {w w1 : World} {F : Nat → Prop} {bp : Nat} {s : RSt} {rv : Value} {bo : Nat} {vs : List Value} {hv : Value} (h : RefAt w F bp s rv bo vs hv) (hFl : ∀ b, F b → b < w.heap.size) (ms : List OpeV) (hv' : Value) (hk : Kept (fun k => hv.ownBlock = some k) w w1)
  (hown : w1.ownsRow 0 119 9 hv' ms.length (ropsCells ms)) (hN : ∀ k, hv'.ownBlock = some k → hv.ownBlock = some k ∨ w.heap.size ≤ k) (hseen : ∀ o ∈ ms, RSeenAt w1 (fun b => F b ∨ w.heap.size ≤ b) o.2 o.1.seen) :
  RefAt (w1.setCell ⟨bp, 5, none⟩ hv') (fun b => F b ∨ w.heap.size ≤ b) bp { s with held := ms } rv bo vs hv' ∧ Kept F w (w1.setCell ⟨bp, 5, none⟩ hv') := by
 have hbp : hv.ownBlock ≠ some bp := own_ne h.heldAt h.block (by decide)
 have hbo : hv.ownBlock ≠ some bo := own_ne h.heldAt h.opsB (by decide)
 have hbr : ∀ b, rv.ownBlock = some b → hv.ownBlock ≠ some b := fun b hb e => by
  rcases h.row.2 with ⟨e1, _⟩ | ⟨g, cap, cur, e1, _, hg, _⟩
  ·rw [e1] at hb; simp [Value.ownBlock] at hb
  ·rw [e1] at hb
   simp only [Value.ownBlock, Option.some.injEq] at hb
   subst hb
   exact own_ne h.heldAt hg (by decide) e
 have hbob : bo ≠ bp := fun e => by have := h.opsB; rw [e, h.block] at this; simp at this
 have kS : Kept (fun b => b = bp) w1 (w1.setCell ⟨bp, 5, none⟩ hv') := Kept.setCell (S := fun b => b = bp) (Kept.refl _ w1) (p := ⟨bp, 5, none⟩) (fun _ => rfl) _
 have kA : Kept (fun b => hv.ownBlock = some b ∨ b = bp) w (w1.setCell ⟨bp, 5, none⟩ hv') := (hk.mono (fun _ _ h => Or.inl h)).trans kS (fun _ _ h => Or.inr h)
 have hb1 := hk.heap h.block hbp
 have hvb : ∀ k, hv'.ownBlock = some k → k ≠ bp := fun k hk' e => by subst e; exact own_ne hown hb1 (by decide) hk'
 refine ⟨⟨?_, ?_, ?_, h.opsN, ?_, ?_, ?_, Or.inl h.inP, Or.inl h.inO, fun k hk' => Or.inl (h.inR k hk'), fun i v hi k hk' => Or.inl (h.inV i v hi k hk'), ?_, h.apart, ?_⟩, ?_⟩
 ·rw [heap_set_same hb1]; rfl
 ·exact ownsRow_kept h.row kA (fun b hb e => by
   rcases e with e | e
   ·exact hbr b hb e
   ·subst e; exact own_ne h.row h.block (by decide) hb)
 ·exact kA.heap h.opsB (fun e => by
   rcases e with e | e
   ·exact hbo e
   ·exact hbob e)
 ·intro i v l hi hl
  exact ownsRow_kept (h.opsAt i v l hi hl) kA (fun b hb e => by
   rcases e with e | e
   ·exact h.apartH i v hi b hb e
   ·subst e; exact own_ne (h.opsAt i v l hi hl) h.block (by decide) hb)
 ·exact ownsRow_kept hown kS (fun b hb e => hvb b hb e)
 ·intro o ho
  obtain ⟨g, cp, cur, h1, h2, h3, h4⟩ := hseen o ho
  exact ⟨g, cp, cur, h1, h2, kS.heap h3 (fun e => by rw [e, hb1] at h3; simp at h3), h4⟩
 ·intro k hk'
  rcases hN k hk' with h1 | h1
  ·exact Or.inl (h.inH k h1)
  ·exact Or.inr h1
 ·intro i v hi k hv2 e
  rcases hN k e with h1 | h1
  ·exact h.apartH i v hi k hv2 h1
  ·have := hFl k (h.inV i v hi k hv2)
   omega
 ·refine kA.mono (fun b _ e => ?_)
  rcases e with e | e
  ·exact h.inH b e
  ·rw [e]; exact h.inP
structure RD (C : Nat) (t0 : RSt) (d : Nat) (t : RSt) : Prop where
 len : t.held.length + d = t0.held.length
 eq : settleR t0.held.length t0 = ((settleR t.held.length t).1, (settleR t.held.length t).2 + d)
 held : ∀ o ∈ t.held, RightOp t.ops.length o.1
 opsL : ∀ l ∈ t.ops, l.length + t.held.length ≤ C
 rowL : t.row.length + t.held.length ≤ C
 clock : t.clock < 4294967296
 opsN : t.ops.length = t0.ops.length
theorem insertEl_len5 (es : List El) (c p bc bp : Nat) (ch : Int) : (insertEl es c p bc bp ch).length ≤ es.length + 1 := by
 unfold insertEl
 split
 ·omega
 ·simp; omega
theorem killEl_len5 (es : List El) (c p : Nat) : (killEl es c p).length = es.length := by
 unfold killEl; split <;> simp
theorem RD.step {C d i : Nat} {t0 t : RSt} {o : Ope} {q : OpeV} (h : RD C t0 d t) (hb : t.pr.best = some (i, o)) (hq : t.held[i]? = some q) : RD C t0 (d + 1) ((t.take i).apply q) := by
 have hil := (List.getElem?_eq_some_iff.1 hq).1
 have hel : (t.held.eraseIdx i).length = t.held.length - 1 := List.length_eraseIdx_of_lt hil
 have hl : ((t.take i).apply q).held.length = t.held.length - 1 := hel
 have ho : ((t.take i).apply q).ops = t.ops.modify q.1.peer (· ++ [q]) := rfl
 have hol : ((t.take i).apply q).ops.length = t.ops.length := by rw [ho, List.length_modify]
 have hR := h.held q (List.mem_of_getElem? hq)
 refine ⟨?_, ?_, ?_, ?_, ?_, ?_, by rw [hol]; exact h.opsN⟩
 ·rw [hl]; have := h.len; omega
 ·rw [h.eq, hl]
  have e : t.held.length = (t.held.length - 1) + 1 := by omega
  rw [e, settleR_some hb hq]
  simp only [Nat.add_sub_cancel]
  congr 1
  omega
 ·intro x hx
  rw [hol]
  exact h.held x (List.mem_of_mem_eraseIdx hx)
 ·intro l hl'
  rw [hl]
  rw [ho] at hl'
  obtain ⟨j, hj, rfl⟩ := List.getElem_of_mem hl'
  have hj2 : j < t.ops.length := by simpa using hj
  have := h.opsL _ (List.getElem_mem hj2)
  rw [List.getElem_modify]
  split
  ·rw [List.length_append, List.length_singleton]; omega
  ·omega
 ·rw [hl]
  have := h.rowL
  show (if q.1.ins then _ else _ : List El).length + _ ≤ C
  split
  ·have h2 : (insertEl (t.take i).row q.1.clock q.1.peer q.1.nclock q.1.npeer q.1.char).length ≤ t.row.length + 1 := insertEl_len5 (t.row) _ _ _ _ _
   omega
  ·have h2 : (killEl (t.take i).row q.1.nclock q.1.npeer).length = t.row.length := killEl_len5 t.row _ _
   omega
 ·show max t.clock q.1.clock < _
  have := h.clock
  have := hR.clock.2
  omega
theorem rops_oneCell (es : List OpeV) (h : ∀ o ∈ es, o.2.oneCell' = true) : ∀ v ∈ ropsCells es, v.oneCell' = true := by
 induction es with
 | nil => intro v hv; cases hv
 | cons e r ih =>
  intro v hv
  simp only [ropsCells, opCells, List.mem_append, List.mem_cons, List.not_mem_nil, or_false] at hv
  rcases hv with (rfl | rfl | rfl | rfl | rfl | rfl | rfl | rfl | rfl) | hv
  all_goals first | rfl | skip
  ·exact h e (by simp)
  ·exact ih (fun o ho => h o (by simp [ho])) v hv
theorem eraseIdx_parts (l : List OpeV) (i : Nat) : l.eraseIdx i = l.take i ++ l.drop (i + 1) := List.eraseIdx_eq_take_drop_succ ..
theorem RefAt.lim {w : World} {F : Nat → Prop} {bp : Nat} {s : RSt} {rv : Value} {bo : Nat} {vs : List Value} {hv : Value} (h : RefAt w F bp s rv bo vs hv) : RefAt w (fun b => F b ∧ b < w.heap.size) bp s rv bo vs hv := by
 refine ⟨h.block, h.row, h.opsB, h.opsN, h.opsAt, h.heldAt, ?_, ⟨h.inP, lt_of_heap h.block⟩, ⟨h.inO, lt_of_heap h.opsB⟩, fun k hk => ⟨h.inR k hk, (h.row.lt k hk).2⟩, ?_, fun k hk => ⟨h.inH k hk, (h.heldAt.lt k hk).2⟩, h.apart, h.apartH⟩
 ·intro o ho
  obtain ⟨g, cp, cur, h1, h2, h3, h4⟩ := h.seenAt o ho
  exact ⟨g, cp, cur, h1, ⟨h2, lt_of_heap h3⟩, h3, h4⟩
 ·intro i v hi k hk
  have hil : i < s.ops.length := by rw [← h.opsN]; exact (List.getElem?_eq_some_iff.1 hi).1
  exact ⟨h.inV i v hi k hk, ((h.opsAt i v _ hi (List.getElem?_eq_getElem hil)).lt k hk).2⟩
theorem RefAt.takes {w : World} {F : Nat → Prop} {bp : Nat} {s : RSt} {rv : Value} {bo : Nat} {vs : List Value} {hv : Value} (h : RefAt w F bp s rv bo vs hv) (i : Nat) (q : OpeV) (hq : s.held[i]? = some q) (hhl : s.held.length ≤ 65536) (W : World) (hW : Kept (fun _ => False) w W) :
  ∃ gh cp v1 w1 v2 w2, hv = .slice (some ⟨gh, 0, none⟩) s.held.length cp ∧ s.held.length ≤ cp ∧ cp ≤ maxLen ∧ ROpsAt w gh s.held ∧
   (∀ ty, (Builtin.append_ #[72, 72] ty #[.slice none 0 0, .slice (some ⟨gh, 0, none⟩) i cp]).run Tryz.prog W = .ok v1 w1) ∧
   (∀ ty, (Builtin.append_ #[72, 72] ty #[v1, .slice (if cp = i + 1 then some ⟨gh, 0, none⟩ else some ⟨gh, (i + 1) * 9, none⟩) (s.held.length - (i + 1)) (cp - (i + 1))]).run Tryz.prog w1 = .ok v2 w2) ∧
   Kept (fun _ => False) W w1 ∧ Kept (fun _ => False) W w2 ∧ w2.ownsRow 0 119 9 v2 (s.held.eraseIdx i).length (ropsCells (s.held.eraseIdx i)) ∧ (∀ b, v2.ownBlock = some b → W.heap.size ≤ b) ∧ ∃ a1 c1, v1 = .slice a1 i c1 := by
 have hil := (List.getElem?_eq_some_iff.1 hq).1
 have hone : ∀ o ∈ s.held, o.2.oneCell' = true := fun o ho => by
  obtain ⟨g, cp, cur, h1, _⟩ := h.seenAt o ho
  rw [h1]; rfl
 obtain ⟨i0, hi0, hz0, hzs, hzb⟩ := info_parts info_rop
 obtain ⟨a, cp, hve, hnc, hmx, ha0, ha1⟩ := rops_of_own h.heldAt
 rcases a with _ | ad
 ·exfalso; rw [ha0 rfl] at hil; simp at hil
 ·obtain ⟨gh, rfl, hat⟩ := ha1 ad rfl
  have hcl : ∀ w', Kept (fun _ => False) W w' → ∀ j u, (ropsCells s.held)[j]? = some u → w'.cell? ⟨gh, j, none⟩ = some u := by
   intro w' k' j u hj
   refine k'.cell' (hW.cell' ?_ (fun h => h)) (fun h => h)
   rcases h.heldAt.2 with ⟨he, h0⟩ | ⟨g, cap, cur, he, _, hg, _, _, _, htk⟩
   ·rw [h0] at hil; omega
   ·rw [hve] at he
    simp only [Value.slice.injEq, Option.some.injEq, Addr.mk.injEq] at he
    obtain ⟨⟨rfl, _⟩, _, rfl⟩ := he
    rw [Lib.cell_of_heap hg]
    have hjl := (List.getElem?_eq_some_iff.1 hj).1
    rw [ropsCells_length] at hjl
    rw [← htk, List.getElem?_take, if_pos hjl, Array.getElem?_toList] at hj
    exact hj
  have hsp : ropsCells s.held = ropsCells (s.held.take (i + 1)) ++ ropsCells (s.held.drop (i + 1)) := by rw [← ropsCells_append, List.take_append_drop]
  have hsp0 : ropsCells s.held = ropsCells (s.held.take i) ++ ropsCells (s.held.drop i) := by rw [← ropsCells_append, List.take_append_drop]
  have hlt : (ropsCells (s.held.take (i + 1))).length = (i + 1) * 9 := by rw [ropsCells_length, List.length_take, Nat.min_eq_left (by omega)]
  have hlt0 : (ropsCells (s.held.take i)).length = i * 9 := by rw [ropsCells_length, List.length_take, Nat.min_eq_left (by omega)]
  have hX : Src Tryz.prog 9 72 (.slice (some ⟨gh, 0, none⟩) i cp) i (ropsCells (s.held.take i)) W :=
   Src.ofSlice _ Tryz.underlying72 _ _ _ _ hlt0 (fun j u hj => by
    rw [Addr.add_lit, Nat.zero_add]
    refine hcl _ (Kept.refl _ _) j u ?_
    rw [hsp0, List.getElem?_append_left (List.getElem?_eq_some_iff.1 hj).1]
    exact hj) (rops_oneCell _ (fun o ho => hone o (List.mem_of_mem_take ho)))
  have hY : ∀ w', Kept (fun _ => False) W w' → Src Tryz.prog 9 72 (.slice (if cp = i + 1 then some ⟨gh, 0, none⟩ else some ⟨gh, (i + 1) * 9, none⟩) (s.held.length - (i + 1)) (cp - (i + 1))) (s.held.length - (i + 1)) (ropsCells (s.held.drop (i + 1))) w' := fun w' k' => by
   have h1 := rops_oneCell (s.held.drop (i + 1)) (fun o ho => hone o (List.mem_of_mem_drop ho))
   by_cases hcq : cp = i + 1
   ·rw [if_pos hcq]
    have hd0 : s.held.drop (i + 1) = [] := List.drop_eq_nil_of_le (by omega)
    rw [hd0]
    exact Src.ofSlice _ Tryz.underlying72 _ _ _ _ (by rw [show s.held.length - (i + 1) = 0 by omega]; rfl) (fun j u hj => by simp [ropsCells] at hj) (fun v hv => by simp [ropsCells] at hv)
   ·rw [if_neg hcq]
    exact Src.ofSlice _ Tryz.underlying72 _ _ _ _ (by rw [ropsCells_length, List.length_drop]) (fun j u hj => by
     rw [Addr.add_lit]
     refine hcl _ k' _ u ?_
     rw [hsp, List.getElem?_append_right (by omega), hlt, Nat.add_sub_cancel_left]
     exact hj) h1
  obtain ⟨v1, w1, r1, own1, kk1, nb1⟩ := append_any Tryz.prog W 72 72 119 i0 _ 9 96 Tryz.underlying72 hi0 hz0 hzs hzb rfl (by decide) (.slice none 0 0) 0 [] (World.ownsRow_nil _ _ _ _) _ i _ hX (by unfold maxLen; omega) (by omega)
  have nb1' : ∀ b, v1.ownBlock = some b → W.heap.size ≤ b := fun b hb => by
   rcases nb1 b hb with h | h
   ·cases h
   ·exact h
  have kk1' : Kept (fun _ => False) W w1 := kk1.mono (fun _ _ h => by cases h)
  obtain ⟨v2, w2, r2, own2, kk2, nb2⟩ := append_any Tryz.prog w1 72 72 119 i0 _ 9 96 Tryz.underlying72 hi0 hz0 hzs hzb rfl (by decide) v1 _ _ own1 _ _ _ (hY w1 kk1') (by unfold maxLen; omega) (by omega)
  have kk2' : Kept (fun _ => False) W w2 := kk1'.trans kk2 (fun b hb h => by have := nb1' b h; omega)
  obtain ⟨a1, c1, hv1, _, _⟩ := own_slice own1
  rw [Nat.zero_add] at hv1
  refine ⟨gh, cp, v1, w1, v2, w2, hve, hnc, hmx, hat, r1, r2, kk1', kk2', ?_, fun b hb => ?_, a1, c1, hv1⟩
  ·rw [eraseIdx_parts, ropsCells_append]
   have e1 : (s.held.take i ++ s.held.drop (i + 1)).length = 0 + i + (s.held.length - (i + 1)) := by simp; omega
   rw [e1]
   exact own2
  ·rcases nb2 b hb with h | h
   ·exact nb1' b h
   ·exact Nat.le_trans kk1'.size h
theorem bestI_some {s : Pr} {x : Nat × Ope} (h : s.best = some x) : bestI s.best = (x.1 : Int) := by rw [h]; rfl
structure RDAt (C : Nat) (F : Nat → Prop) (t0 : RSt) (w wr : World) (bp bo : Nat) (d : Nat) (t : RSt) : Prop where
 rd : RD C t0 d t
 at_ : ∃ F' rv vs hv, RefAt wr F' bp t rv bo vs hv ∧ (∀ b, F' b → b < wr.heap.size) ∧ (∀ b, F' b → F b ∨ w.heap.size ≤ b)
 kept : Kept F w wr
theorem RDAt.quiet {C : Nat} {F : Nat → Prop} {t0 : RSt} {w wr w' : World} {bp bo d : Nat} {t : RSt} (h : RDAt C F t0 w wr bp bo d t) (k : Kept (fun _ => False) wr w') : RDAt C F t0 w w' bp bo d t := by
 obtain ⟨F', rv, vs, hv, h1, h2, h3⟩ := h.at_
 exact ⟨h.rd, ⟨F', rv, vs, hv, h1.kept k (fun _ _ h => h), fun b hb => Nat.lt_of_lt_of_le (h2 b hb) k.size, h3⟩, h.kept.trans k (fun _ _ h => h.elim)⟩
set_option maxHeartbeats 2000000 in
set_option maxRecDepth 100000 in
theorem rdeliver_any {w : World} {F : Nat → Prop} {bp : Nat} {s : RSt} {rv : Value} {bo : Nat} {vs : List Value} {hv : Value} (h : RefAt w F bp s rv bo vs hv) (hFl : ∀ b, F b → b < w.heap.size) (o : OpeV) (so : ∃ a n c, o.2 = .slice a n c) (hR : ∀ o ∈ s.held, RightOp s.ops.length o.1) (hp : o.1.peer < s.ops.length) (h8 : s.ops.length ≤ 8) (hlen : ∀ l ∈ s.ops, l.length + s.held.length ≤ 4294967295) (hrl : s.row.length + s.held.length ≤ 4294967294) (hhl : s.held.length ≤ 65536) (hnm : o.1.nclock = 0 → o.1.npeer = 0) (hcl : o.1.clock < 4294967296) (hsc : s.clock < 4294967296) :
  Calls Tryz.prog 61 #[.pointer (some ⟨bp, 0, none⟩), .agg #[.bool o.1.ins, .int .i64 o.1.peer, .int .i64 o.1.num, .int .i64 o.1.clock, o.2, .int .i64 o.1.nclock, .int .i64 o.1.npeer, .int .i64 o.1.char, .string ⟨o.1.packet.toArray⟩]] w fun e' w' => e' = .returned (.int .i64 ((s.deliverR o).2 : Nat)) ∧ ∃ F' rv' vs' hv', RefAt w' F' bp (s.deliverR o).1 rv' bo vs' hv' ∧ (∀ b, F' b → b < w'.heap.size) ∧ (∀ b, F' b → F b ∨ w.heap.size ≤ b) ∧ Kept F w w' := by
 obtain ⟨oa, on, oc, ho2⟩ := so
 obtain ⟨ob, hob⟩ : ∃ ob : Obj, ob = .cells #[.bool o.1.ins, .int .i64 o.1.peer, .int .i64 o.1.num, .int .i64 o.1.clock, o.2, .int .i64 o.1.nclock, .int .i64 o.1.npeer, .int .i64 o.1.char, .string ⟨o.1.packet.toArray⟩] 119 := ⟨_, rfl⟩
 have hW : Kept (fun _ => False) w (w.alloc ob) := (Kept.refl _ _).alloc _
 have hbox : (w.alloc ob).heap[w.heap.size]? = some (.cells #[.bool o.1.ins, .int .i64 o.1.peer, .int .i64 o.1.num, .int .i64 o.1.clock, o.2, .int .i64 o.1.nclock, .int .i64 o.1.npeer, .int .i64 o.1.char, .string ⟨o.1.packet.toArray⟩] 119 (0, 0)) := by rw [hob]; exact heap_alloc_new w _
 obtain ⟨W, hWe⟩ : ∃ W, W = w.alloc ob := ⟨_, rfl⟩
 have hap := rapply_any (w := w.alloc ob) (h.kept hW (fun _ _ h => h)) (fun b hb => Nat.lt_of_lt_of_le (hFl b hb) hW.size) o ⟨oa, on, oc, ho2⟩ hp h8 (fun l hl => by have := hlen l hl; omega) (by omega) hnm hcl hsc
 have HRD : Hid (RD 4294967296 (s.apply o) 0 (s.apply o)) := by
  refine ⟨rfl, rfl, ?_, ?_, ?_, ?_, rfl⟩
  ·intro q hq
   show RightOp (s.ops.modify o.1.peer (· ++ [o])).length q.1
   rw [List.length_modify]
   exact hR q hq
  ·intro l hl
   have hl' : l ∈ s.ops.modify o.1.peer (· ++ [o]) := hl
   obtain ⟨j, hj, rfl⟩ := List.getElem_of_mem hl'
   have hj2 : j < s.ops.length := by simpa using hj
   have := hlen _ (List.getElem_mem hj2)
   show _ + s.held.length ≤ _
   rw [List.getElem_modify]
   split
   ·rw [List.length_append, List.length_singleton]; omega
   ·omega
  ·show (if o.1.ins then _ else _ : List El).length + s.held.length ≤ _
   split
   ·have := insertEl_len5 s.row o.1.clock o.1.peer o.1.nclock o.1.npeer o.1.char; omega
   ·rw [killEl_len5]; omega
  ·show max s.clock o.1.clock < _
   omega
 have hon : Hid ((s.apply o).ops.length ≤ 8 ∧ (s.apply o).held.length ≤ 65536) := ⟨by show (s.ops.modify o.1.peer (· ++ [o])).length ≤ 8; rw [List.length_modify]; exact h8, hhl⟩
 rw [ho2] at hob hbox hap ⊢
 rw [← hWe] at hbox hW hap
 have hwz := lt_of_heap hbox
 have b0 : W.cell? ⟨w.heap.size, 0, none⟩ = some (.bool o.1.ins) := by rw [Lib.cell_of_heap hbox]; rfl
 have b1 : W.cell? ⟨w.heap.size, 1, none⟩ = some (.int .i64 o.1.peer) := by rw [Lib.cell_of_heap hbox]; rfl
 have b2 : W.cell? ⟨w.heap.size, 2, none⟩ = some (.int .i64 o.1.num) := by rw [Lib.cell_of_heap hbox]; rfl
 have b3 : W.cell? ⟨w.heap.size, 3, none⟩ = some (.int .i64 o.1.clock) := by rw [Lib.cell_of_heap hbox]; rfl
 have b4 : W.cell? ⟨w.heap.size, 4, none⟩ = some (.slice oa on oc) := by rw [Lib.cell_of_heap hbox]; rfl
 have b5 : W.cell? ⟨w.heap.size, 5, none⟩ = some (.int .i64 o.1.nclock) := by rw [Lib.cell_of_heap hbox]; rfl
 have b6 : W.cell? ⟨w.heap.size, 6, none⟩ = some (.int .i64 o.1.npeer) := by rw [Lib.cell_of_heap hbox]; rfl
 have b7 : W.cell? ⟨w.heap.size, 7, none⟩ = some (.int .i64 o.1.char) := by rw [Lib.cell_of_heap hbox]; rfl
 have b8 : W.cell? ⟨w.heap.size, 8, none⟩ = some (.string ⟨o.1.packet.toArray⟩) := by rw [Lib.cell_of_heap hbox]; rfl
 have HW : Hid (Kept (fun _ => False) w W) := hW
 have HDN : Hid (s.deliverR o = ((settleR (s.apply o).held.length (s.apply o)).1, (settleR (s.apply o).held.length (s.apply o)).2 + 1)) := rfl
 clear hbox hW h hFl hR hlen hrl hhl hp
 go_enter Tryz.func61, Tryz.ntmps61
 go_upto_region 1 with fail
 rw [← hob, ← hWe]
 clear hob hWe
 go_wp2_with fail
 refine hap.mono ?_
 rintro e1 w1 ⟨rfl, rv', vs', R, K⟩
 clear hap b0 b1 b2 b3 b4 b5 b6 b7 b8
 have R1 : RDAt 4294967296 F (s.apply o) w w1 bp bo 0 (s.apply o) := by
  refine ⟨HRD.out, ⟨_, rv', vs', hv, R.lim, fun b hb => hb.2, fun b hb => hb.1.imp id (fun h => Nat.le_trans HW.out.size h)⟩, (HW.out.mono (fun _ _ h => h.elim)).trans K (fun _ _ h => h)⟩
 have hf := rfirst_any R HRD.out.held hon.out.1 (fun l hl => by have := HRD.out.opsL l hl; omega) hon.out.2
 obtain ⟨T, hT⟩ : ∃ T, s.apply o = T := ⟨_, rfl⟩
 rw [hT] at R1 hf hon HDN
 clear R K HRD HW hwz hT
 go_wp2_with fail
 refine hf.mono ?_
 rintro e2 w2 ⟨rfl, k2⟩
 have R2 := R1.quiet k2
 clear hf R1 k2
 go_wp2_with fail
 go_loopw [5, 6] (fun n k wr => ∃ (d : Nat) (t : RSt), n = .int .i64 (1 + d : Nat) ∧ k = .int .i64 (bestI t.pr.best) ∧ d ≤ 65536 ∧ Hid (RDAt 4294967296 F T w wr bp bo d t)) (fun n _ _ => 70000 - (intOf n).toNat)
 case atStart => exact ⟨0, T, rfl, rfl, Nat.zero_le _, R2⟩
 case round =>
  clear R2
  obtain ⟨d, t, rfl, rfl, hd, HR⟩ := hrel
  cases hb : t.pr.best with
  | none =>
   have HE : Hid (s.deliverR o = (t, 1 + d)) := by
    show _ = _
    rw [HDN.out, HR.out.rd.eq, settleR_none hb]
    simp only [Nat.zero_add]
    rw [Nat.add_comm]
   clear hb HDN
   rw [show bestI none = -1 from rfl]
   go_wp2_with fail
   go_ret
   obtain ⟨F', rv, vs, hv, h1, h2, h3⟩ := HR.out.at_
   rw [HE.out]
   exact ⟨rfl, F', rv, vs, hv, h1, h2, h3, HR.out.kept⟩
  | some x =>
   obtain ⟨i, q1⟩ := x
   obtain ⟨q, hq, rfl⟩ := best_held hb
   have HB : Hid (t.pr.best = some (i, q.1)) := hb
   clear hb
   obtain ⟨F', rv, vs, hv, R, hFl, hFn⟩ := HR.out.at_
   have hrd := HR.out.rd
   have hqm := List.mem_of_getElem? hq
   have hqR := hrd.held q hqm
   have hil := (List.getElem?_eq_some_iff.1 hq).1
   have hlenT := hrd.len
   have hopsT := hrd.opsN
   have honT := hon.out
   have hrow := hrd.rowL
   have hops := hrd.opsL
   have hckl := hrd.clock
   obtain ⟨sg, sc, scur, hsv, hsF, hsg, hscc⟩ := R.seenAt q hqm
   obtain ⟨W, hWe⟩ : ∃ W, W = wr.alloc (.cells #[.bool q.1.ins, .int .i64 q.1.peer, .int .i64 q.1.num, .int .i64 q.1.clock, .slice (some ⟨sg, 0, none⟩) q.1.seen.length sc, .int .i64 q.1.nclock, .int .i64 q.1.npeer, .int .i64 q.1.char, .string ⟨q.1.packet.toArray⟩] 119) := ⟨_, rfl⟩
   have hW : Kept (fun _ => False) wr W := by rw [hWe]; exact (Kept.refl _ _).alloc _
   have hbx : W.heap[wr.heap.size]? = some (.cells #[.bool q.1.ins, .int .i64 q.1.peer, .int .i64 q.1.num, .int .i64 q.1.clock, .slice (some ⟨sg, 0, none⟩) q.1.seen.length sc, .int .i64 q.1.nclock, .int .i64 q.1.npeer, .int .i64 q.1.char, .string ⟨q.1.packet.toArray⟩] 119 (0, 0)) := by rw [hWe]; exact heap_alloc_new wr _
   obtain ⟨gh, cp, v1, w3, v2, w4, hve, hnc, hmx, hat, r1, r2, k3, k4, own, nb, a1, c1, hv1⟩ := R.takes i q hq (by omega) W hW
   subst hve
   subst hv1
   obtain ⟨a2, c2, hv2, _, _⟩ := own_slice own
   obtain ⟨m, hm⟩ : ∃ m, (t.held.eraseIdx i).length = m := ⟨_, rfl⟩
   rw [hm] at hv2
   subst hv2
   obtain ⟨RH, KH⟩ := R.reheld hFl (t.held.eraseIdx i) (.slice a2 m c2) ((hW.trans' k4).mono (fun _ _ h => h.elim)) own (fun k hk => Or.inr (Nat.le_trans hW.size (nb k hk))) (fun z hz => ((R.seenAt z (List.mem_of_mem_eraseIdx hz)).kept (hW.trans' k4) (fun _ _ h => h)).mono (fun b hb => Or.inl hb))
   obtain ⟨c0, c1', c2', c3, c4, c5⟩ := R.cells
   have hbz := lt_of_heap R.block
   have hap2 := rapply_any RH.lim (fun b hb => hb.2) q ⟨_, _, _, hsv⟩ hqR.peer (by show t.ops.length ≤ 8; omega) (fun l hl => by have := hops l hl; omega) (by show t.row.length ≤ _; omega) (fun h0 => (hqR.begin_ h0).2) hqR.clock.2 hckl
   rw [hsv] at hap2
   obtain ⟨w5, hw5⟩ : ∃ x, x = w4.setCell ⟨bp, 5, none⟩ (.slice a2 m c2) := ⟨_, rfl⟩
   have hb4 := k4.heap hbx (fun h => h)
   have hb5 : w5.heap[wr.heap.size]? = some (.cells #[.bool q.1.ins, .int .i64 q.1.peer, .int .i64 q.1.num, .int .i64 q.1.clock, .slice (some ⟨sg, 0, none⟩) q.1.seen.length sc, .int .i64 q.1.nclock, .int .i64 q.1.npeer, .int .i64 q.1.char, .string ⟨q.1.packet.toArray⟩] 119 (0, 0)) := by
    rw [hw5]
    exact (Kept.setCell (S := fun b => b = bp) (Kept.refl _ w4) (p := ⟨bp, 5, none⟩) (fun _ => rfl) _).heap hb4 (fun e => by omega)
   rw [← hw5] at hap2 RH KH
   have HST : Hid (∀ (w6 : World) (rv' : Value) (vs' : List Value), RefAt w6 (fun b => (F' b ∨ wr.heap.size ≤ b) ∧ b < w5.heap.size ∨ w5.heap.size ≤ b) bp ((t.take i).apply q) rv' bo vs' (.slice a2 m c2) → Kept (fun b => (F' b ∨ wr.heap.size ≤ b) ∧ b < w5.heap.size) w5 w6 → RDAt 4294967296 F T w w6 bp bo (d + 1) ((t.take i).apply q)) := by
    intro w6 rv' vs' Q K
    refine ⟨hrd.step HB.out hq, ⟨_, rv', vs', _, Q.lim, fun b hb => hb.2, fun b hb => ?_⟩, (HR.out.kept.trans KH (fun b hb h => ?_)).trans K (fun b hb h => ?_)⟩
    ·rcases hb.1 with ⟨h1 | h1, _⟩ | h1
     ·exact hFn b h1
     ·exact Or.inr (Nat.le_trans HR.out.kept.size h1)
     ·exact Or.inr (Nat.le_trans (Nat.le_trans HR.out.kept.size KH.size) h1)
    ·rcases hFn b h with h1 | h1
     ·exact h1
     ·omega
    ·rcases h.1 with h1 | h1
     ·rcases hFn b h1 with h2 | h2
      ·exact h2
      ·omega
     ·have := HR.out.kept.size; omega
   have x0 := hat i q hq 0 _ rfl
   have x1 := hat i q hq 1 _ rfl
   have x2 := hat i q hq 2 _ rfl
   have x3 := hat i q hq 3 _ rfl
   have x4 := hat i q hq 4 _ rfl
   have x5 := hat i q hq 5 _ rfl
   have x6 := hat i q hq 6 _ rfl
   have x7 := hat i q hq 7 _ rfl
   have x8 := hat i q hq 8 _ rfl
   simp only [Nat.add_zero] at x0
   rw [hsv] at x4
   have xz : gh < wr.heap.size := World.block_lt_of_cell? wr _ x0
   have c5W := hW.cell' c5 (fun h => h)
   have c53 := k3.cell' c5W (fun h => h)
   have c54 := k4.cell' c5W (fun h => h)
   have z4 : bp < w4.heap.size := World.block_lt_of_cell? w4 _ c54
   have f4 : ∀ j, w4.frozen? ⟨bp, j, none⟩ = false := Lib.frozen_of_heap (k4.heap (hW.heap R.block (fun h => h)) (fun h => h))
   have b0 : w5.cell? ⟨wr.heap.size, 0, none⟩ = some (.bool q.1.ins) := by rw [Lib.cell_of_heap hb5]; rfl
   have b1 : w5.cell? ⟨wr.heap.size, 1, none⟩ = some (.int .i64 q.1.peer) := by rw [Lib.cell_of_heap hb5]; rfl
   have b2 : w5.cell? ⟨wr.heap.size, 2, none⟩ = some (.int .i64 q.1.num) := by rw [Lib.cell_of_heap hb5]; rfl
   have b3 : w5.cell? ⟨wr.heap.size, 3, none⟩ = some (.int .i64 q.1.clock) := by rw [Lib.cell_of_heap hb5]; rfl
   have b4 : w5.cell? ⟨wr.heap.size, 4, none⟩ = some (.slice (some ⟨sg, 0, none⟩) q.1.seen.length sc) := by rw [Lib.cell_of_heap hb5]; rfl
   have b5 : w5.cell? ⟨wr.heap.size, 5, none⟩ = some (.int .i64 q.1.nclock) := by rw [Lib.cell_of_heap hb5]; rfl
   have b6 : w5.cell? ⟨wr.heap.size, 6, none⟩ = some (.int .i64 q.1.npeer) := by rw [Lib.cell_of_heap hb5]; rfl
   have b7 : w5.cell? ⟨wr.heap.size, 7, none⟩ = some (.int .i64 q.1.char) := by rw [Lib.cell_of_heap hb5]; rfl
   have b8 : w5.cell? ⟨wr.heap.size, 8, none⟩ = some (.string ⟨q.1.packet.toArray⟩) := by rw [Lib.cell_of_heap hb5]; rfl
   have bz5 := lt_of_heap hb5
   have hii : (i : Int) < (t.held.length : Int) := by omega
   have hii2 : (i : Int) ≤ (t.held.length : Int) := by omega
   have hii3 : (i : Int) + 1 ≤ (t.held.length : Int) := by omega
   have hic : (i : Int) ≤ (cp : Int) := by omega
   have hic2 : (i : Int) + 1 ≤ (cp : Int) := by omega
   have hnci : (t.held.length : Int) ≤ (cp : Int) := by omega
   have hicn : i + 1 ≤ cp := by omega
   have hicm : i ≤ cp := by omega
   have hge : (0 : Int) ≤ (i : Int) := by omega
   have HD : Hid (t.held.length + d ≤ 65536) := by show _ ≤ _; omega
   have hdd : (d : Int) ≤ 65536 := by omega
   have hib : (i : Int) ≤ 65536 := by omega
   have HQ : Hid (hqR.peer = hqR.peer) := rfl
   have HWe : Hid (W = wr.alloc _) := hWe
   have HW5 : Hid (w5 = w4.setCell ⟨bp, 5, none⟩ (.slice a2 m c2)) := hw5
   have HB2 : Hid (bestI t.pr.best = (i : Int)) := bestI_some HB.out
   clear hWe hw5 R RH KH hat own nb k3 k4 hb4 hb5 hbx hW hrd hqR hqm hops hrow hckl hlenT hopsT honT hsv hsF hsg hscc HR hq hm hFl hFn HB HQ c0 c1' c2' c3 c4
   rw [show bestI (some (i, q.1)) = (i : Int) from rfl]
   go_upto_region 7 with fail
   rw [← HWe.out]
   clear HWe x0 x1 x2 x3 x4 x5 x6 x7 x8
   go_upto_region 9 with (at_builtin; refine Lib.wpList_append_run _ rfl _ _ _ _ rfl _ _ rfl rfl _ _ (r1 _) ?_)
   go_upto_region 10 with (at_builtin; refine Lib.wpList_append_run _ rfl _ _ _ _ rfl _ _ rfl rfl _ _ (r2 _) ?_)
   all_goals
    clear r1 r2 c5W c53
    go_upto_region 11 with fail
    rw [← HW5.out]
    clear HW5 z4 f4 c54
    go_wp2_with fail
    all_goals
     refine hap2.mono ?_
     rintro e6 w6 ⟨rfl, rv6, vs6, Q, K⟩
     have R6 := HST.out w6 rv6 vs6 Q K
     obtain ⟨F6, rv7, vs7, hv7, Q6, _, _⟩ := R6.at_
     have hrd6 := R6.rd
     have hlen6 := hrd6.len
     have hopn6 := hrd6.opsN
     have hon6 := hon.out
     have hf2 := rfirst_any Q6 hrd6.held (by omega) (fun l hl => by have := hrd6.opsL l hl; omega) (by omega)
     have HR6 : Hid _ := R6
     clear hap2 HST Q K Q6 R6 hrd6 hlen6 hopn6 hon6 b0 b1 b2 b3 b4 b5 b6 b7 b8
     obtain ⟨t6, ht6⟩ : ∃ t6, (t.take i).apply q = t6 := ⟨_, rfl⟩
     rw [ht6] at hf2 HR6
     clear ht6
     go_wp2_with fail
     refine hf2.mono ?_
     rintro e7 w7 ⟨rfl, k7⟩
     have R7 : Hid (RDAt 4294967296 F T w w7 bp bo (d + 1) t6) := HR6.out.quiet k7
     clear hf2 HR6 k7
     go_wp2_with fail
     go_roundw
     case rel => exact ⟨d + 1, t6, by go_num, rfl, by have := HD.out; have := R7.out.rd.len; have := hon.out.2; omega, R7⟩
     case measure => simp [intOf]; omega
def RSt.makes (s : RSt) (ins : Bool) (nclock npeer char : Nat) : Ope := ⟨ins, s.me, (s.known[s.me]?).getD 0 + 1, s.clock + 1, s.known, nclock, npeer, char⟩
set_option maxHeartbeats 1000000 in
set_option maxRecDepth 100000 in
theorem rown_any {w : World} {F : Nat → Prop} {bp : Nat} {s : RSt} {rv : Value} {bo : Nat} {vs : List Value} {hv : Value} (h : RefAt w F bp s rv bo vs hv) (hFl : ∀ b, F b → b < w.heap.size) (ins : Bool) (nclock npeer char : Nat) (hm : s.me < s.ops.length) (h8 : s.ops.length ≤ 8) (hR : ∀ o ∈ s.held, RightOp s.ops.length o.1) (hlen : ∀ l ∈ s.ops, l.length + s.held.length ≤ 4294967294) (hrl : s.row.length + s.held.length ≤ 4294967294) (hhl : s.held.length ≤ 65536) (hnm : nclock = 0 → npeer = 0) (hsc : s.clock < 4294967295) (hnc : nclock < 4294967296) (hnp : npeer < 256) (hch : char < 4294967296) :
  Calls Tryz.prog 48 #[.pointer (some ⟨bp, 0, none⟩), .agg #[.bool ins, .int .i64 0, .int .i64 0, .int .i64 0, .slice none 0 0, .int .i64 nclock, .int .i64 npeer, .int .i64 char, .string ⟨#[]⟩]] w fun e' w' =>
   e' = .returned (.string ⟨(s.makes ins nclock npeer char).packet.toArray⟩) ∧ ∃ sv F' rv' vs' hv', RefAt w' F' bp (s.deliverR (s.makes ins nclock npeer char, sv)).1 rv' bo vs' hv' ∧ (∀ b, F' b → b < w'.heap.size) ∧ (∀ b, F' b → F b ∨ w.heap.size ≤ b) ∧ Kept F w w' := by
 obtain ⟨c0, c1, c2, c3, c4, c5⟩ := h.cells
 obtain ⟨l, a, cp, hl, g0, hvp, hkl⟩ := h.opsCell s.me hm
 have hll := hlen l (List.mem_of_getElem? hl)
 have hmi : (s.me : Int) < (s.ops.length : Int) := by omega
 have hbz := lt_of_heap h.block
 have hoz := lt_of_heap h.opsB
 have HR : Hid (RefAt w F bp s rv bo vs hv) := h
 have HKN : Hid (∀ n ∈ s.known, n < 4294967296) := by
  intro n hn
  simp only [RSt.known, List.mem_map] at hn
  obtain ⟨l', hl', rfl⟩ := hn
  have := hlen l' hl'
  omega
 have HLN : Hid ((∀ l ∈ s.ops, l.length + s.held.length ≤ 4294967295) ∧ ∀ o ∈ s.held, RightOp s.ops.length o.1) := ⟨fun l' hl' => Nat.le_trans (hlen l' hl') (by decide), hR⟩
 clear c1 c3 c5 hvp hlen h hR
 go_enter Tryz.func48, Tryz.ntmps48
 go_upto_region 2 with fail
 obtain ⟨W, hWe⟩ : ∃ W, W = w.alloc (.cells #[.bool ins, .int .i64 s.me, .int .i64 0, .int .i64 0, .slice none 0 0, .int .i64 nclock, .int .i64 npeer, .int .i64 char, .string ⟨#[]⟩] 119) := ⟨_, rfl⟩
 have hW : Kept (fun _ => False) w W := by rw [hWe]; exact (Kept.refl _ _).alloc _
 have hbox : W.heap[w.heap.size]? = some (.cells #[.bool ins, .int .i64 s.me, .int .i64 0, .int .i64 0, .slice none 0 0, .int .i64 nclock, .int .i64 npeer, .int .i64 char, .string ⟨#[]⟩] 119 (0, 0)) := by rw [hWe]; exact heap_alloc_new w _
 rw [← hWe]
 clear hWe
 go_cut [21] (fun _ wd => wd.heap[w.heap.size]? = some (.cells #[.bool ins, .int .i64 s.me, .int .i64 (l.length + 1 : Nat), .int .i64 0, .slice none 0 0, .int .i64 nclock, .int .i64 npeer, .int .i64 char, .string ⟨#[]⟩] 119 (0, 0)) ∧ Kept (fun _ => False) w wd)
 case first =>
  refine wp_region_tailB (by kernel_rfl) 12 _ rfl (by kernel_rfl) (fun _ => False) 11 (fun i v w1 => match i with
   | 0 => v = .pointer (some ⟨bp, 0, none⟩)
   | 1 => v = .pointer (some ⟨bp, 0, none⟩)
   | 2 => v = .pointer (some ⟨bp, 4, none⟩)
   | 3 => v = .slice (some ⟨bo, 0, none⟩) s.ops.length s.ops.length
   | 4 => v = .pointer (some ⟨bp, 0, none⟩)
   | 5 => v = .pointer (some ⟨bp, 0, none⟩)
   | 6 => v = .pointer (some ⟨bp, 0, none⟩)
   | 7 => v = .int .i64 s.me
   | 8 => v = .pointer (some ⟨bo, s.me, none⟩)
   | 9 => v = .slice a l.length cp
   | 10 => v = .int .i64 l.length
   | 11 => v = .int .i64 (l.length + 1 : Nat)
   | _ => True) ?_ ?_ ?_ ?_ ?_
  ·intro i v w1 w2 hv hk
   split at hv
   all_goals exact hv
  ·intro i v w1 w2 hi hv hk
   split at hv
   all_goals exact hv
  ·intro i o' hi12 hi11 hi a' w1 hk up
   have hk' : Kept (fun _ => False) w w1 := (hW.drew).trans' hk
   have d0 := hk'.cell' c0 (fun h => h)
   have d4 := hk'.cell' c4 (fun h => h)
   have dv := hk'.cell' g0 (fun h => h)
   have o0 := up.old 0 (by
    intro j oj hj hjd
    exfalso
    rcases j with _ | _ | _ | _ | _ | _ | _ | _ | _ | _ | _ | _ | _ | _ | j <;> simp at hj <;> subst hj <;> simp at hjd)
   simp at o0
   rcases i with _ | _ | _ | _ | _ | _ | _ | _ | _ | _ | _ | _ | i
   all_goals simp only [List.getElem?_cons_zero, List.getElem?_cons_succ, List.getElem?_nil, Option.some.injEq, reduceCtorEq] at hi
   all_goals try subst hi
   ·simp [Oper.wp, go_sem, Act.eval, o0]
    exact ⟨_, rfl, rfl, Kept.refl _ _⟩
   ·obtain ⟨_, s0, rfl⟩ := up.d 0 10 rfl rfl
    simp [Oper.wp, go_sem, Act.eval, s0]
    exact ⟨_, rfl, rfl, Kept.refl _ _⟩
   ·obtain ⟨_, s1, rfl⟩ := up.d 1 11 rfl rfl
    simp [Oper.wp, go_sem, Act.eval, s1]
    exact ⟨_, rfl, rfl, Kept.refl _ _⟩
   ·obtain ⟨_, s2, rfl⟩ := up.d 2 12 rfl rfl
    simp [Oper.wp, go_sem, Act.eval, s2, d4]
    exact ⟨_, rfl, rfl, Kept.refl _ _⟩
   ·simp [Oper.wp, go_sem, Act.eval, o0]
    exact ⟨_, rfl, rfl, Kept.refl _ _⟩
   ·obtain ⟨_, s4, rfl⟩ := up.d 4 14 rfl rfl
    simp [Oper.wp, go_sem, Act.eval, s4]
    exact ⟨_, rfl, rfl, Kept.refl _ _⟩
   ·obtain ⟨_, s5, rfl⟩ := up.d 5 15 rfl rfl
    simp [Oper.wp, go_sem, Act.eval, s5]
    exact ⟨_, rfl, rfl, Kept.refl _ _⟩
   ·obtain ⟨_, s6, rfl⟩ := up.d 6 16 rfl rfl
    simp [Oper.wp, go_sem, Act.eval, s6, d0]
    exact ⟨_, rfl, rfl, Kept.refl _ _⟩
   ·obtain ⟨_, s3, rfl⟩ := up.d 3 13 rfl rfl
    obtain ⟨_, s7, rfl⟩ := up.d 7 17 rfl rfl
    simp [Oper.wp, go_sem, Act.eval, s3, s7, hmi, hm]
    exact ⟨_, rfl, rfl, Kept.refl _ _⟩
   ·obtain ⟨_, s8, rfl⟩ := up.d 8 18 rfl rfl
    simp [Oper.wp, go_sem, Act.eval, s8, dv]
    exact ⟨_, rfl, rfl, Kept.refl _ _⟩
   ·obtain ⟨_, s9, rfl⟩ := up.d 9 19 rfl rfl
    simp [Oper.wp, go_sem, Act.eval, s9]
    exact ⟨_, rfl, rfl, Kept.refl _ _⟩
   ·exact absurd rfl hi11
   ·omega
  ·intro o' _ ho a' w1 hk up
   simp only [List.getElem?_cons_zero, List.getElem?_cons_succ, List.getElem?_nil, Option.some.injEq, reduceCtorEq] at ho
   subst ho
   obtain ⟨_, s10, rfl⟩ := up.d 10 20 rfl rfl
   simp [Oper.wp, go_sem, Act.eval, s10]
   exact ⟨_, rfl, by congr 1; rw [IntKind.wrap_i64]; omega, Kept.refl _ _⟩
  ·intro vals w1 hk hvv
   have h11 : vals 11 = _ := hvv 11 (by decide)
   have hk' : Kept (fun _ => False) W w1 := ((Kept.refl _ W).drew).trans' hk
   have hb1 := hk'.heap hbox (fun h => h)
   have xz := lt_of_heap hb1
   have xf : ∀ j, w1.frozen? ⟨w.heap.size, j, none⟩ = false := Lib.frozen_of_heap hb1
   have xc : w1.cell? ⟨w.heap.size, 2, none⟩ = some (.int .i64 0) := by rw [Lib.cell_of_heap hb1]; rfl
   have HE : Hid ((w1.setCell ⟨w.heap.size, 2, none⟩ (.int .i64 (l.length + 1 : Nat))).heap[w.heap.size]? = some (.cells #[.bool ins, .int .i64 s.me, .int .i64 (l.length + 1 : Nat), .int .i64 0, .slice none 0 0, .int .i64 nclock, .int .i64 npeer, .int .i64 char, .string ⟨#[]⟩] 119 (0, 0)) ∧ Kept (fun _ => False) w (w1.setCell ⟨w.heap.size, 2, none⟩ (.int .i64 (l.length + 1 : Nat)))) := by
    refine ⟨by rw [heap_set_same hb1]; rfl, Kept.setCell (hW.trans' hk') (p := ⟨w.heap.size, 2, none⟩) (fun h => absurd h (Nat.lt_irrefl _)) _⟩
   clear hvv hk' hk hb1
   simp only [List.take_succ_cons, List.take_zero, List.drop_succ_cons, List.drop_zero, putAll, Act.put, h11]
   simp only [Nat.reduceAdd, Nat.zero_add, List.setIfInBounds_toArray, List.set_cons_succ, List.set_cons_zero]
   go_wp2_with fail
   go_meet
   exact HE.out
 case rest =>
 obtain ⟨w2, hw2⟩ : ∃ x, x = wc := ⟨_, rfl⟩
 subst hw2
 obtain ⟨hb2, k2⟩ := hcut
 clear hbox hW
 have d2 := k2.cell' c2 (fun h => h)
 have xz := lt_of_heap hb2
 have bz : bp < w2.heap.size := Nat.lt_of_lt_of_le hbz k2.size
 have xf : ∀ j, w2.frozen? ⟨w.heap.size, j, none⟩ = false := Lib.frozen_of_heap hb2
 have xc : w2.cell? ⟨w.heap.size, 3, none⟩ = some (.int .i64 0) := by rw [Lib.cell_of_heap hb2]; rfl
 have HE : Hid ((w2.setCell ⟨w.heap.size, 3, none⟩ (.int .i64 (s.clock + 1 : Nat))).heap[w.heap.size]? = some (.cells #[.bool ins, .int .i64 s.me, .int .i64 (l.length + 1 : Nat), .int .i64 (s.clock + 1 : Nat), .slice none 0 0, .int .i64 nclock, .int .i64 npeer, .int .i64 char, .string ⟨#[]⟩] 119 (0, 0)) ∧ Kept (fun _ => False) w (w2.setCell ⟨w.heap.size, 3, none⟩ (.int .i64 (s.clock + 1 : Nat)))) :=
  ⟨by rw [heap_set_same hb2]; rfl, Kept.setCell k2 (p := ⟨w.heap.size, 3, none⟩) (fun h => absurd h (Nat.lt_irrefl _)) _⟩
 clear hb2 k2
 go_upto_region 3 with fail
 go_cut [27] (fun _ wd => wd.heap[w.heap.size]? = some (.cells #[.bool ins, .int .i64 s.me, .int .i64 (l.length + 1 : Nat), .int .i64 (s.clock + 1 : Nat), .slice none 0 0, .int .i64 nclock, .int .i64 npeer, .int .i64 char, .string ⟨#[]⟩] 119 (0, 0)) ∧ Kept (fun _ => False) w wd)
 case first =>
  go_wp2_with fail
  go_meet
  exact HE.out
 case rest =>
 obtain ⟨w3, hw3⟩ : ∃ x, x = wc := ⟨_, rfl⟩
 subst hw3
 obtain ⟨hb3, k3⟩ := hcut
 obtain ⟨N, hN⟩ : ∃ N, l.length + 1 = N := ⟨_, rfl⟩
 obtain ⟨C, hC⟩ : ∃ C, s.clock + 1 = C := ⟨_, rfl⟩
 rw [hN, hC] at hb3
 have HNC : Hid (s.makes ins nclock npeer char = ⟨ins, s.me, N, C, s.known, nclock, npeer, char⟩) := by
  show RSt.makes _ _ _ _ _ = _
  unfold RSt.makes
  rw [hkl, ← hN, ← hC]; rfl
 have hNl : N < 4294967296 := by omega
 have hCl : C < 4294967296 := by omega
 clear hN hC
 clear HE d2 xz bz xf xc
 have hkn := rknown_any (HR.out.kept k3 (fun _ _ h => h)) h8
 have HB : Hid (w3.heap[w.heap.size]? = some (.cells #[.bool ins, .int .i64 s.me, .int .i64 N, .int .i64 C, .slice none 0 0, .int .i64 nclock, .int .i64 npeer, .int .i64 char, .string ⟨#[]⟩] 119 (0, 0)) ∧ Kept (fun _ => False) w w3) := ⟨hb3, k3⟩
 clear hb3 k3
 go_wp2_with fail
 refine hkn.mono ?_
 rintro e1 w4 ⟨sv, rfl, hsn, k4, hnb⟩
 clear hkn
 obtain ⟨hb4, k3⟩ := HB.out
 replace hb4 := k4.heap hb4 (fun h => h)
 have k4' := k3.trans' k4
 have hsb : ∀ b, sv.ownBlock = some b → b ≠ w.heap.size := fun b hb e => by
  have := hnb b hb
  have := lt_of_heap HB.out.1
  omega
 clear HB k3 k4 hnb
 obtain ⟨sa, sc, hsv, hsc2⟩ := hsn.cells
 have xz := lt_of_heap hb4
 have xf : ∀ j, w4.frozen? ⟨w.heap.size, j, none⟩ = false := Lib.frozen_of_heap hb4
 have xc : w4.cell? ⟨w.heap.size, 4, none⟩ = some (.slice none 0 0) := by rw [Lib.cell_of_heap hb4]; rfl
 have kS : Kept (fun b => b = w.heap.size) w4 (w4.setCell ⟨w.heap.size, 4, none⟩ sv) := Kept.setCell (S := fun b => b = w.heap.size) (Kept.refl _ _) (p := ⟨w.heap.size, 4, none⟩) (fun _ => rfl) _
 have HE : Hid ((w4.setCell ⟨w.heap.size, 4, none⟩ sv).heap[w.heap.size]? = some (.cells #[.bool ins, .int .i64 s.me, .int .i64 N, .int .i64 C, sv, .int .i64 nclock, .int .i64 npeer, .int .i64 char, .string ⟨#[]⟩] 119 (0, 0)) ∧ Kept (fun _ => False) w (w4.setCell ⟨w.heap.size, 4, none⟩ sv) ∧ IntsAt (w4.setCell ⟨w.heap.size, 4, none⟩ sv) sv s.known) :=
  ⟨by rw [heap_set_same hb4]; rfl, Kept.setCell k4' (p := ⟨w.heap.size, 4, none⟩) (fun h => absurd h (Nat.lt_irrefl _)) _, hsn.kept kS (fun b hb e => hsb b hb e)⟩
 subst hsv
 clear hb4 k4' hsn hsc2 kS hsb
 go_upto_region 5 with fail
 obtain ⟨w5, hw5⟩ : ∃ x, w4.setCell ⟨w.heap.size, 4, none⟩ (.slice sa s.known.length sc) = x := ⟨_, rfl⟩
 rw [hw5] at HE ⊢
 clear hw5 xz xf xc
 obtain ⟨hb5, k5, hs5⟩ := HE.out
 have hme : s.me < 256 := by omega
 have hpk := rpacket_any ins s.me N C nclock npeer char s.known (.slice sa s.known.length sc) ⟨#[]⟩ w5 hs5 hme hNl hCl hnc hnp hch (by simp [RSt.known]; omega) HKN.out
 have b0 : w5.cell? ⟨w.heap.size, 0, none⟩ = some (.bool ins) := by rw [Lib.cell_of_heap hb5]; rfl
 have b1 : w5.cell? ⟨w.heap.size, 1, none⟩ = some (.int .i64 s.me) := by rw [Lib.cell_of_heap hb5]; rfl
 have b2 : w5.cell? ⟨w.heap.size, 2, none⟩ = some (.int .i64 N) := by rw [Lib.cell_of_heap hb5]; rfl
 have b3 : w5.cell? ⟨w.heap.size, 3, none⟩ = some (.int .i64 C) := by rw [Lib.cell_of_heap hb5]; rfl
 have b4 : w5.cell? ⟨w.heap.size, 4, none⟩ = some (.slice sa s.known.length sc) := by rw [Lib.cell_of_heap hb5]; rfl
 have b5 : w5.cell? ⟨w.heap.size, 5, none⟩ = some (.int .i64 nclock) := by rw [Lib.cell_of_heap hb5]; rfl
 have b6 : w5.cell? ⟨w.heap.size, 6, none⟩ = some (.int .i64 npeer) := by rw [Lib.cell_of_heap hb5]; rfl
 have b7 : w5.cell? ⟨w.heap.size, 7, none⟩ = some (.int .i64 char) := by rw [Lib.cell_of_heap hb5]; rfl
 have b8 : w5.cell? ⟨w.heap.size, 8, none⟩ = some (.string ⟨#[]⟩) := by rw [Lib.cell_of_heap hb5]; rfl
 have xz := lt_of_heap hb5
 clear hb5 k5 hs5
 obtain ⟨o, ho⟩ : ∃ o : Ope, o = ⟨ins, s.me, N, C, s.known, nclock, npeer, char⟩ := ⟨_, rfl⟩
 obtain ⟨pk, hpke⟩ : ∃ pk : List UInt8, pk = packetOf (if ins then 1 else 2) s.me N C s.known nclock npeer char := ⟨_, rfl⟩
 have HPK : Hid (o.packet = pk) := by rw [ho, hpke]; rfl
 rw [← hpke] at hpk
 clear hpke
 go_wp2_with fail
 refine hpk.mono ?_
 rintro e2 w6 ⟨rfl, k6⟩
 clear hpk b0 b1 b2 b3 b4 b5 b6 b7 b8 xz
 obtain ⟨hb6, k5, _⟩ := HE.out
 replace hb6 := k6.heap hb6 (fun h => h)
 have k6' := k5.trans' k6
 clear HE k6 k5
 have xz := lt_of_heap hb6
 have xf : ∀ j, w6.frozen? ⟨w.heap.size, j, none⟩ = false := Lib.frozen_of_heap hb6
 have xc : w6.cell? ⟨w.heap.size, 8, none⟩ = some (.string ⟨#[]⟩) := by rw [Lib.cell_of_heap hb6]; rfl
 have HE : Hid ((w6.setCell ⟨w.heap.size, 8, none⟩ (.string ⟨pk.toArray⟩)).heap[w.heap.size]? = some (.cells #[.bool ins, .int .i64 s.me, .int .i64 N, .int .i64 C, .slice sa s.known.length sc, .int .i64 nclock, .int .i64 npeer, .int .i64 char, .string ⟨pk.toArray⟩] 119 (0, 0)) ∧ Kept (fun _ => False) w (w6.setCell ⟨w.heap.size, 8, none⟩ (.string ⟨pk.toArray⟩))) :=
  ⟨by rw [heap_set_same hb6]; rfl, Kept.setCell k6' (p := ⟨w.heap.size, 8, none⟩) (fun h => absurd h (Nat.lt_irrefl _)) _⟩
 clear hb6 k6'
 go_upto_region 6 with fail
 obtain ⟨w7, hw7⟩ : ∃ x, w6.setCell ⟨w.heap.size, 8, none⟩ (.string ⟨pk.toArray⟩) = x := ⟨_, rfl⟩
 rw [hw7] at HE ⊢
 clear hw7 xz xf xc
 obtain ⟨hb7, k7⟩ := HE.out
 have hdl := rdeliver_any (HR.out.kept k7 (fun _ _ h => h)) (fun b hb => Nat.lt_of_lt_of_le (hFl b hb) k7.size) (o, .slice sa s.known.length sc) ⟨_, _, _, rfl⟩ HLN.out.2 (by rw [ho]; exact hm) h8 HLN.out.1 hrl hhl (by rw [ho]; exact hnm) (by rw [ho]; exact hCl) (by omega)
 simp only [HPK.out] at hdl
 rw [ho] at hdl
 simp only at hdl
 have b0 : w7.cell? ⟨w.heap.size, 0, none⟩ = some (.bool ins) := by rw [Lib.cell_of_heap hb7]; rfl
 have b1 : w7.cell? ⟨w.heap.size, 1, none⟩ = some (.int .i64 s.me) := by rw [Lib.cell_of_heap hb7]; rfl
 have b2 : w7.cell? ⟨w.heap.size, 2, none⟩ = some (.int .i64 N) := by rw [Lib.cell_of_heap hb7]; rfl
 have b3 : w7.cell? ⟨w.heap.size, 3, none⟩ = some (.int .i64 C) := by rw [Lib.cell_of_heap hb7]; rfl
 have b4 : w7.cell? ⟨w.heap.size, 4, none⟩ = some (.slice sa s.known.length sc) := by rw [Lib.cell_of_heap hb7]; rfl
 have b5 : w7.cell? ⟨w.heap.size, 5, none⟩ = some (.int .i64 nclock) := by rw [Lib.cell_of_heap hb7]; rfl
 have b6 : w7.cell? ⟨w.heap.size, 6, none⟩ = some (.int .i64 npeer) := by rw [Lib.cell_of_heap hb7]; rfl
 have b7 : w7.cell? ⟨w.heap.size, 7, none⟩ = some (.int .i64 char) := by rw [Lib.cell_of_heap hb7]; rfl
 have b8 : w7.cell? ⟨w.heap.size, 8, none⟩ = some (.string ⟨pk.toArray⟩) := by rw [Lib.cell_of_heap hb7]; rfl
 have xz := lt_of_heap hb7
 have HO : Hid (o = ⟨ins, s.me, N, C, s.known, nclock, npeer, char⟩) := ho
 clear hb7 k7 ho
 go_wp2_with fail
 refine hdl.mono ?_
 rintro e3 w8 ⟨rfl, F', rv', vs', hv', R, hF1, hF2, K⟩
 clear hdl b0 b1 b2 b3 b4 b5 b6 b7 b8
 obtain ⟨hb7, k7⟩ := HE.out
 have b8 : w8.cell? ⟨w.heap.size, 8, none⟩ = some (.string ⟨pk.toArray⟩) := by
  rw [Lib.cell_of_heap (K.heap hb7 (fun h => by have := hFl _ h; omega))]; rfl
 have xz8 : w.heap.size < w8.heap.size := World.block_lt_of_cell? w8 _ b8
 have HF : Hid (∃ sv F' rv' vs' hv', RefAt w8 F' bp (s.deliverR (s.makes ins nclock npeer char, sv)).1 rv' bo vs' hv' ∧ (∀ b, F' b → b < w8.heap.size) ∧ (∀ b, F' b → F b ∨ w.heap.size ≤ b) ∧ Kept F w w8) := by
  refine ⟨.slice sa s.known.length sc, F', rv', vs', hv', ?_, hF1, fun b hb => (hF2 b hb).imp id (fun h => Nat.le_trans k7.size h), (k7.mono (fun _ _ h => h.elim)).trans K (fun _ _ h => h)⟩
  rw [HNC.out]
  exact R
 have HP : Hid ((s.makes ins nclock npeer char).packet = pk) := by rw [HNC.out, ← HO.out]; exact HPK.out
 clear R K hb7 k7 HE hF1 hF2
 go_wp2_with fail
 go_ret
 exact ⟨ret_str (by rw [HP.out]), HF.out⟩
end Go.Proofs.YtgfafbanahiigaaGreat
