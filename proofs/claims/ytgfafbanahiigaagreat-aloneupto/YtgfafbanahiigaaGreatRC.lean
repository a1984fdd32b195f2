import Derived.Deep.CutBlock
import Derived.Test.YtgfafbanahiigaaGreatRH
import Derived.Test.YtgfafbanahiigaaGreatRK
import Derived.Test.YtgfafbanahiigaaGreatRB
set_option linter.unusedVariables false
set_option linter.unusedSimpArgs false
namespace Go.Chorus
section
variable {P : Program} {ops : Array Oper} {Q : Exit → Act → World → Prop}
theorem wp_region_claimsG {id : Nat} {a0 : Act} {w : World} (hm : P.follows .mixedOrders = true) (V : Nat → Value → World → Prop)
    (hV : ∀ i v w w', V i v w → Kept (fun _ => False) w w' → V i v w')
    (hd : ∀ (i : Nat) (o : Oper), ops[i]? = some o → ∃ d, o.dst = some d ∧ d < a0.tmps.size)
    (hne : ∀ (i j : Nat) (o u : Oper), ops[i]? = some o → ops[j]? = some u → i ≠ j → o.dst ≠ u.dst)
    (hop : ∀ (i : Nat) (o : Oper), ops[i]? = some o → ∀ a w1, Upto ops V a0 (w.drew) i o a w1 → (Region.wanted o (yielded ops a.tmps) = true ∧ o.wp P a w1 (fun a' w' => ∃ v, a' = a.put o.dst v ∧ V i v w' ∧ Kept (fun _ => False) w1 w') Q) ∨ (Region.wanted o (yielded ops a.tmps) = false ∧ V i undef w1))
    (hend : ∀ a w1, Kept (fun _ => False) w.drew w1 → a.tmps.size = a0.tmps.size → a.defers = a0.defers → (∀ (i : Nat) (o : Oper) (d : Tmp), ops[i]? = some o → o.dst = some d → ∃ v, a.tmps[d]? = some v ∧ V i v w1) →
      (∀ d : Tmp, (∀ (i : Nat) (o : Oper), ops[i]? = some o → o.dst ≠ some d) → a.tmps[d]? = a0.tmps[d]?) → Q .normal a w1)
    (hrise : risingEdges ops = true) :
    (Code.region id ops true).wp P Q a0 w := by
  refine wp_region_inv hm (ByClaims ops V a0 w.drew) ?_ ?_ ?_
  · intro listed a w1 inv hr
    have hl := all_of_ready hrise listed inv.count hr
    refine hend a w1 inv.kept inv.size inv.defers (fun i o d hi hdd => inv.done i o d hi (hl i ?_) hdd) (fun d hdd => inv.rest d (fun i o hi _ => hdd i o hi))
    exact (Array.getElem?_eq_some_iff.1 hi).1
  · intro listed a w1 i inv hi
    obtain ⟨hun, o, ho, hdeps⟩ := mem_ready.1 hi
    obtain ⟨d, hdo, hdl⟩ := hd i o ho
    have hil : i < listed.size := by rw [inv.count]; exact (Array.getElem?_eq_some_iff.1 ho).1
    have hunf : listed.getD i false = false := by
      simp only [Array.getD, hil, dif_pos] at hun ⊢; exact hun
    have hup : Upto ops V a0 w.drew i o a w1 := by
      refine ⟨inv.kept, inv.size, inv.defers, fun e he hb oj dj hj hdj => inv.done e.on oj dj hj (hdeps e he hb) hdj, fun d' hd' => inv.rest d' (fun j oj hj hlj hdj => ?_)⟩
      rcases hd' j oj hj hdj with rfl | ⟨e, he, hb, hei⟩
      · rw [hunf] at hlj; cases hlj
      · have := inv.closed j oj hj hlj e he hb
        rw [hei, hunf] at this; cases this
    unfold wpOp
    simp only [ho]
    have key : ∀ (a' : Act) (w' : World), (∃ v, a' = a.put o.dst v ∧ V i v w' ∧ Kept (fun _ => False) w1 w') → ByClaims ops V a0 w.drew (listed.setIfInBounds i true) a' w' := by
     rintro a' w' ⟨v, rfl, hv, hk⟩
     rw [hdo]
     refine ⟨by simp [inv.count], inv.kept.trans' hk, by simp [Act.put, inv.size], inv.defers, ?_, ?_, ?_⟩
     · intro j oj dj hj hlj hdj
       rw [getD_set _ _ _ hil] at hlj
       by_cases hij : i = j
       · subst hij
         rw [ho] at hj
         cases hj
         rw [hdo] at hdj
         cases hdj
         exact ⟨v, by rw [put_get, if_pos rfl, if_pos (by rw [inv.size]; exact hdl)], hv⟩
       · rw [if_neg hij] at hlj
         obtain ⟨u, hu, hvu⟩ := inv.done j oj dj hj hlj hdj
         refine ⟨u, ?_, hV _ _ _ _ hvu hk⟩
         rw [put_get, if_neg (fun e => hne i j o oj ho hj hij (by rw [hdo, hdj, e]))]
         exact hu
     · intro d' hd'
       have hdd : d ≠ d' := fun e => hd' i o ho (by rw [getD_set _ _ _ hil, if_pos rfl]) (by rw [hdo, e])
       rw [put_get, if_neg hdd]
       refine inv.rest d' (fun j oj hj hlj => hd' j oj hj ?_)
       rw [getD_set _ _ _ hil]
       split
       · rfl
       · exact hlj
     · intro j oj hj hlj e he hb
       rw [getD_set _ _ _ hil] at hlj ⊢
       by_cases hij : i = j
       · subst hij
         rw [ho] at hj
         cases hj
         have := hdeps e he hb
         split
         · rfl
         · exact this
       · rw [if_neg hij] at hlj
         have := inv.closed j oj hj hlj e he hb
         split
         · rfl
         · exact this
    rcases hop i o ho a w1 hup with ⟨hw, hh⟩ | ⟨hw, hh⟩
    · rw [if_pos hw]
      left
      exact Oper.wp_mono key hh
    · rw [if_neg (by rw [hw]; exact Bool.false_ne_true)]
      exact key _ _ ⟨undef, rfl, hh, Kept.refl _ _⟩
  · refine ⟨by simp, Kept.refl _ _, rfl, rfl, ?_, fun d _ => rfl, ?_⟩
    · intro i o d _ hl _
      exfalso
      simp only [Array.getD_eq_getD_getElem?, Array.getElem?_replicate] at hl
      split at hl <;> simp at hl
    · intro i o _ hl
      exfalso
      simp only [Array.getD_eq_getD_getElem?, Array.getElem?_replicate] at hl
      split at hl <;> simp at hl
end
def guardRegion (l : List Oper) (size : Nat) : Bool :=
  (l.all fun o => (match o.dst with | some d => decide (d < size) | none => false)) && decide ((l.map fun o => o.dst).Nodup) && risingEdges l.toArray
theorem wp_region_byG {P : Program} {Q : Exit → Act → World → Prop} {id : Nat} {a0 : Act} {w : World} {l : List Oper} (hm : P.follows .mixedOrders = true) (n : Nat) (hn : a0.tmps.size = n) (hB : guardRegion l n = true) (V : Nat → Value → World → Prop)
    (hV : ∀ i v w w', V i v w → Kept (fun _ => False) w w' → V i v w')
    (hop : ∀ (i : Nat) (o : Oper), l[i]? = some o → ∀ a w1, Upto l.toArray V a0 (w.drew) i o a w1 → (Region.wanted o (yielded l.toArray a.tmps) = true ∧ o.wp P a w1 (fun a' w' => ∃ v, a' = a.put o.dst v ∧ V i v w' ∧ Kept (fun _ => False) w1 w') Q) ∨ (Region.wanted o (yielded l.toArray a.tmps) = false ∧ V i undef w1))
    (hend : ∀ (vals : Nat → Value) w1, Kept (fun _ => False) w.drew w1 → (∀ i, i < l.length → V i (vals i) w1) → Q .normal (putAll a0 l 0 vals) w1) :
    (Code.region id l.toArray true).wp P Q a0 w := by
  simp only [guardRegion, Bool.and_eq_true, List.all_eq_true, decide_eq_true_eq] at hB
  obtain ⟨⟨hB1, hB2⟩, hB3⟩ := hB
  have hget : ∀ (i : Nat), l.toArray[i]? = l[i]? := fun i => by simp
  have hdst : ∀ (i : Nat) (o : Oper), l.toArray[i]? = some o → ∃ d, o.dst = some d ∧ d < a0.tmps.size := by
    intro i o ho
    rw [hget] at ho
    have h1 := hB1 o (List.mem_of_getElem? ho)
    cases hd : o.dst with
    | none => rw [hd] at h1; simp at h1
    | some d => rw [hd] at h1; exact ⟨d, rfl, by rw [hn]; simpa using h1⟩
  have hpw : l.Pairwise fun o u => o.dst ≠ u.dst := by
    rw [List.Nodup, List.pairwise_map] at hB2; exact hB2
  refine wp_region_claimsG hm V hV hdst ?_ (fun i o ho => hop i o (by rw [← hget]; exact ho)) ?_ hB3
  · intro i j o u ho hu hij
    rw [hget] at ho hu
    obtain ⟨hi, rfl⟩ := List.getElem?_eq_some_iff.1 ho
    obtain ⟨hj, rfl⟩ := List.getElem?_eq_some_iff.1 hu
    rcases Nat.lt_or_ge i j with h1 | h1
    · exact List.pairwise_iff_getElem.1 hpw i j hi hj h1
    · exact (List.pairwise_iff_getElem.1 hpw j i hj hi (by omega)).symm
  · intro a w1 hk hsz hdf hdone hrest
    obtain ⟨vals, hvals⟩ : ∃ vals : Nat → Value, ∀ i (o : Oper) d, l[i]? = some o → o.dst = some d → a.tmps[d]? = some (vals i) ∧ V i (vals i) w1 := by
      refine ⟨fun i => match l[i]? with | some o => (match o.dst with | some d => (a.tmps[d]?).getD undef | none => undef) | none => undef, ?_⟩
      intro i o d hi hd
      obtain ⟨v, h1, h2⟩ := hdone i o d (by rw [hget]; exact hi) hd
      simp only [hi, hd, h1, Option.getD_some]
      exact ⟨trivial, h2⟩
    have hfr : a = putAll a0 l 0 vals := by
      have h1 := putAll_size l a0 0 vals
      have ht : a.tmps = (putAll a0 l 0 vals).tmps := by
        apply Array.ext_getElem?
        intro d
        by_cases hx : ∃ (i : Nat) (o : Oper), l[i]? = some o ∧ o.dst = some d
        · obtain ⟨i, o, hi, hd⟩ := hx
          obtain ⟨d', hd', hlt⟩ := hdst i o (by rw [hget]; exact hi)
          rw [hd] at hd'; cases hd'
          rw [putAll_done l a0 0 vals hpw i o d hi hd hlt, (hvals i o d hi hd).1, Nat.zero_add]
        · rw [putAll_rest l a0 0 vals d (fun o ho hd => by
            obtain ⟨i, hi, rfl⟩ := List.getElem_of_mem ho
            exact hx ⟨i, _, List.getElem?_eq_getElem hi, hd⟩)]
          exact hrest d (fun i o ho hd => hx ⟨i, o, by rw [← hget]; exact ho, hd⟩)
      have hd2 : a.defers = (putAll a0 l 0 vals).defers := by rw [hdf, h1.2]
      cases a
      simp only at ht hd2
      rw [ht, hd2]
    rw [hfr]
    refine hend vals w1 hk (fun i hi => ?_)
    obtain ⟨d, hd, _⟩ := hdst i l[i] (by rw [hget]; exact List.getElem?_eq_getElem hi)
    exact (hvals i l[i] d (List.getElem?_eq_getElem hi) hd).2
end Go.Chorus
namespace Go.Proofs.YtgfafbanahiigaaGreat
open Go.RowKit Go.Chorus
set_option maxHeartbeats 4000000 in
set_option maxRecDepth 100000 in
theorem rapply_any {w : World} {F : Nat → Prop} {bp : Nat} {s : RSt} {rv : Value} {bo : Nat} {vs : List Value} {hv : Value} (h : RefAt w F bp s rv bo vs hv) (hFl : ∀ b, F b → b < w.heap.size) (o : OpeV) (so : ∃ a n c, o.2 = .slice a n c) (hp : o.1.peer < s.ops.length) (h8 : s.ops.length ≤ 8) (hlen : ∀ l ∈ s.ops, l.length ≤ 4294967296) (hrl : s.row.length ≤ 4294967295) (hnm : o.1.nclock = 0 → o.1.npeer = 0) (hcl : o.1.clock < 4294967296) (hsc : s.clock < 4294967296) :
  Calls Tryz.prog 83 #[.pointer (some ⟨bp, 0, none⟩), .agg #[.bool o.1.ins, .int .i64 o.1.peer, .int .i64 o.1.num, .int .i64 o.1.clock, o.2, .int .i64 o.1.nclock, .int .i64 o.1.npeer, .int .i64 o.1.char, .string ⟨o.1.packet.toArray⟩]] w fun e' w' => e' = .returned (.tuple #[]) ∧ ∃ rv' vs', RefAt w' (fun b => F b ∨ w.heap.size ≤ b) bp (s.apply o) rv' bo vs' hv ∧ Kept F w w' := by
 obtain ⟨c0, c1, c2, c3, c4, c5⟩ := h.cells
 obtain ⟨l, a, cp, hl, g0, hvp, hkl⟩ := h.opsCell o.1.peer hp
 have hrow := h.opsAt o.1.peer _ l hvp hl
 obtain ⟨oa, on, oc, ho2⟩ := so
 obtain ⟨ob, hob⟩ : ∃ ob : Obj, ob = .cells #[.bool o.1.ins, .int .i64 o.1.peer, .int .i64 o.1.num, .int .i64 o.1.clock, o.2, .int .i64 o.1.nclock, .int .i64 o.1.npeer, .int .i64 o.1.char, .string ⟨o.1.packet.toArray⟩] 119 := ⟨_, rfl⟩
 have hW : Kept (fun _ => False) w (w.alloc ob) := (Kept.refl _ _).alloc _
 have hbox : (w.alloc ob).heap[w.heap.size]? = some (.cells #[.bool o.1.ins, .int .i64 o.1.peer, .int .i64 o.1.num, .int .i64 o.1.clock, o.2, .int .i64 o.1.nclock, .int .i64 o.1.npeer, .int .i64 o.1.char, .string ⟨o.1.packet.toArray⟩] 119 (0, 0)) := by rw [hob]; exact heap_alloc_new w _
 have hSlt : ∀ k, (Value.slice a l.length cp).ownBlock = some k → k < w.heap.size := fun k hk => (hrow.lt k hk).2
 have hSb : (Value.slice a l.length cp).ownBlock ≠ some bp := own_ne hrow h.block (by decide)
 have hSo : (Value.slice a l.length cp).ownBlock ≠ some bo := own_ne hrow h.opsB (by decide)
 have hpi : (o.1.peer : Int) < (s.ops.length : Int) := by omega
 have hll := hlen l (List.mem_of_getElem? hl)
 rw [ho2] at hob hbox ⊢
 go_enter Tryz.func83, Tryz.ntmps83
 go_wp2_with fail
 rw [← hob]
 obtain ⟨W, hWe⟩ : ∃ W, W = w.alloc ob := ⟨_, rfl⟩
 rw [← hWe] at hbox hW ⊢
 have hbz := lt_of_heap h.block
 have hbx := lt_of_heap hbox
 go_cut [24] (fun _ wc => Hid (∃ vs', RefAt wc (fun b => F b ∨ W.heap.size ≤ b) bp { s with ops := s.ops.modify o.1.peer (· ++ [o]) } rv bo vs' hv ∧ Kept F W wc))
 case first =>
  refine wp_region_tailB (by kernel_rfl) 17 _ rfl (by kernel_rfl) (fun k => (Value.slice a l.length cp).ownBlock = some k) 16
   (fun i v w1 => match i with
    | 0 | 1 | 6 | 7 => v = .pointer (some ⟨bp, 0, none⟩)
    | 2 | 8 => v = .pointer (some ⟨bp, 4, none⟩)
    | 3 | 9 => v = .slice (some ⟨bo, 0, none⟩) s.ops.length s.ops.length
    | 4 | 10 => v = .pointer (some ⟨w.heap.size, 1, none⟩)
    | 5 | 11 => v = .int .i64 o.1.peer
    | 12 => v = .pointer (some ⟨bo, o.1.peer, none⟩)
    | 13 => v = .slice a l.length cp
    | 14 => v = .agg #[.bool o.1.ins, .int .i64 o.1.peer, .int .i64 o.1.num, .int .i64 o.1.clock, .slice oa on oc, .int .i64 o.1.nclock, .int .i64 o.1.npeer, .int .i64 o.1.char, .string ⟨o.1.packet.toArray⟩]
    | 15 => ∃ vb, v = .slice (some ⟨vb, 0, none⟩) 1 1 ∧ w1.heap[vb]? = some (.cells #[.bool o.1.ins, .int .i64 o.1.peer, .int .i64 o.1.num, .int .i64 o.1.clock, .slice oa on oc, .int .i64 o.1.nclock, .int .i64 o.1.npeer, .int .i64 o.1.char, .string ⟨o.1.packet.toArray⟩] 119 (0, 0)) ∧ w.heap.size ≤ vb
    | 16 => w1.ownsRow 0 119 9 v (l.length + 1) (ropsCells (l ++ [o])) ∧ (∀ k, v.ownBlock = some k → (Value.slice a l.length cp).ownBlock = some k ∨ W.heap.size ≤ k)
    | _ => True) ?_ ?_ ?_ ?_ ?_
  ·intro i v w1 w2 hv hk
   split at hv
   case h_16 =>
    obtain ⟨vb, h1, h2, h3⟩ := hv
    exact ⟨vb, h1, hk.heap h2 (fun h => h), h3⟩
   case h_17 => exact ⟨ownsRow_kept hv.1 hk (fun _ _ h => h), hv.2⟩
   all_goals exact hv
  ·intro i v w1 w2 hi hv hk
   split at hv
   case h_16 =>
    obtain ⟨vb, h1, h2, h3⟩ := hv
    exact ⟨vb, h1, hk.heap h2 (fun h => by have := hSlt vb h; omega), h3⟩
   case h_17 => exact absurd rfl hi
   all_goals exact hv
  ·intro i o' hi17 hi16 hi a' w1 hk up
   have hk' : Kept (fun k => (Value.slice a l.length cp).ownBlock = some k) W w1 := (((Kept.refl (fun _ => False) W).drew).mono (fun _ _ h => h.elim)).trans hk (fun _ _ h => h)
   have d4 := hk'.cell' (hW.cell' c4 (fun h => h)) hSb
   have dv := hk'.cell' (hW.cell' g0 (fun h => h)) hSo
   have hbx1 := hk'.heap hbox (fun h => by have := hSlt _ h; omega)
   have b0 : w1.cell? ⟨w.heap.size, 0, none⟩ = some (.bool o.1.ins) := by rw [Lib.cell_of_heap hbx1]; rfl
   have b1 : w1.cell? ⟨w.heap.size, 1, none⟩ = some (.int .i64 o.1.peer) := by rw [Lib.cell_of_heap hbx1]; rfl
   have b2 : w1.cell? ⟨w.heap.size, 2, none⟩ = some (.int .i64 o.1.num) := by rw [Lib.cell_of_heap hbx1]; rfl
   have b3 : w1.cell? ⟨w.heap.size, 3, none⟩ = some (.int .i64 o.1.clock) := by rw [Lib.cell_of_heap hbx1]; rfl
   have b4 : w1.cell? ⟨w.heap.size, 4, none⟩ = some (.slice oa on oc) := by rw [Lib.cell_of_heap hbx1]; rfl
   have b5 : w1.cell? ⟨w.heap.size, 5, none⟩ = some (.int .i64 o.1.nclock) := by rw [Lib.cell_of_heap hbx1]; rfl
   have b6 : w1.cell? ⟨w.heap.size, 6, none⟩ = some (.int .i64 o.1.npeer) := by rw [Lib.cell_of_heap hbx1]; rfl
   have b7 : w1.cell? ⟨w.heap.size, 7, none⟩ = some (.int .i64 o.1.char) := by rw [Lib.cell_of_heap hbx1]; rfl
   have b8 : w1.cell? ⟨w.heap.size, 8, none⟩ = some (.string ⟨o.1.packet.toArray⟩) := by rw [Lib.cell_of_heap hbx1]; rfl
   have hold : ∀ d : Nat, (d = 0 ∨ d = 3) → a'.tmps[d]? = _ := fun d hd => up.old d (by
    intro j oj hj hjd
    exfalso
    rcases j with _ | _ | _ | _ | _ | _ | _ | _ | _ | _ | _ | _ | _ | _ | _ | _ | _ | _ | _ | j <;> simp at hj <;> subst hj <;> simp at hjd <;> omega)
   have o0 := hold 0 (by decide)
   have o3 := hold 3 (by decide)
   simp at o0 o3
   clear hold
   rcases i with _ | _ | _ | _ | _ | _ | _ | _ | _ | _ | _ | _ | _ | _ | _ | _ | _ | i
   all_goals simp only [List.getElem?_cons_zero, List.getElem?_cons_succ, List.getElem?_nil, Option.some.injEq, reduceCtorEq] at hi
   all_goals try subst hi
   ·simp [Oper.wp, go_sem, Act.eval, o0]
    exact ⟨_, rfl, rfl, Kept.refl _ _⟩
   ·obtain ⟨_, s0, rfl⟩ := up.d 0 8 rfl rfl
    simp [Oper.wp, go_sem, Act.eval, s0]
    exact ⟨_, rfl, rfl, Kept.refl _ _⟩
   ·obtain ⟨_, s0, rfl⟩ := up.d 1 9 rfl rfl
    simp [Oper.wp, go_sem, Act.eval, s0]
    exact ⟨_, rfl, rfl, Kept.refl _ _⟩
   ·obtain ⟨_, s0, rfl⟩ := up.d 2 10 rfl rfl
    simp [Oper.wp, go_sem, Act.eval, s0, d4]
    exact ⟨_, rfl, rfl, Kept.refl _ _⟩
   ·simp [Oper.wp, go_sem, Act.eval, o3]
    exact ⟨_, rfl, rfl, Kept.refl _ _⟩
   ·obtain ⟨_, s0, rfl⟩ := up.d 4 12 rfl rfl
    simp [Oper.wp, go_sem, Act.eval, s0, b1]
    exact ⟨_, rfl, rfl, Kept.refl _ _⟩
   ·simp [Oper.wp, go_sem, Act.eval, o0]
    exact ⟨_, rfl, rfl, Kept.refl _ _⟩
   ·obtain ⟨_, s0, rfl⟩ := up.d 6 14 rfl rfl
    simp [Oper.wp, go_sem, Act.eval, s0]
    exact ⟨_, rfl, rfl, Kept.refl _ _⟩
   ·obtain ⟨_, s0, rfl⟩ := up.d 7 15 rfl rfl
    simp [Oper.wp, go_sem, Act.eval, s0]
    exact ⟨_, rfl, rfl, Kept.refl _ _⟩
   ·obtain ⟨_, s0, rfl⟩ := up.d 8 16 rfl rfl
    simp [Oper.wp, go_sem, Act.eval, s0, d4]
    exact ⟨_, rfl, rfl, Kept.refl _ _⟩
   ·simp [Oper.wp, go_sem, Act.eval, o3]
    exact ⟨_, rfl, rfl, Kept.refl _ _⟩
   ·obtain ⟨_, s0, rfl⟩ := up.d 10 18 rfl rfl
    simp [Oper.wp, go_sem, Act.eval, s0, b1]
    exact ⟨_, rfl, rfl, Kept.refl _ _⟩
   ·obtain ⟨_, s0, rfl⟩ := up.d 9 17 rfl rfl
    obtain ⟨_, s1, rfl⟩ := up.d 11 19 rfl rfl
    simp [Oper.wp, go_sem, Act.eval, s0, s1, hpi, hp]
    exact ⟨_, rfl, rfl, Kept.refl _ _⟩
   ·obtain ⟨_, s0, rfl⟩ := up.d 12 20 rfl rfl
    simp [Oper.wp, go_sem, Act.eval, s0, dv]
    exact ⟨_, rfl, rfl, Kept.refl _ _⟩
   ·simp [Oper.wp, go_sem, Act.eval, o3, b0, b1, b2, b3, b4, b5, b6, b7, b8]
    exact ⟨_, rfl, rfl, Kept.refl _ _⟩
   ·obtain ⟨_, s0, rfl⟩ := up.d 14 22 rfl rfl
    simp [Oper.wp, go_sem, Act.eval, s0]
    exact ⟨_, rfl, ⟨_, rfl, heap_alloc_new w1 _, Nat.le_trans hW.size hk'.size⟩, (Kept.refl _ _).alloc _⟩
   ·exact absurd rfl hi16
   ·omega
  ·intro o' _ ho a' w1 hk up
   simp only [List.getElem?_cons_zero, List.getElem?_cons_succ, List.getElem?_nil, Option.some.injEq, reduceCtorEq] at ho
   subst ho
   obtain ⟨_, s13, rfl⟩ := up.d 13 21 rfl rfl
   obtain ⟨v15, s15, vb, hv15, hvb, hvz⟩ := up.dep ⟨15, .data⟩ (by simp) rfl _ 23 rfl rfl
   subst hv15
   have hk' : Kept (fun _ => False) w w1 := (hW.drew).trans' hk
   obtain ⟨i0, hi, hz0, hz1, hz2⟩ := info_parts info_rop
   have hsrc : Src Tryz.prog 9 72 (.slice (some ⟨vb, 0, none⟩) 1 1) 1 (ropsCells [o]) w1 := by
    refine Src.ofSlice w1 Tryz.underlying72 _ 1 1 _ rfl (fun j u hj => ?_) (fun u hu => ?_)
    ·rw [Addr.add_lit, Nat.zero_add, Lib.cell_of_heap hvb]
     simpa [ropsCells, opCells, ho2] using hj
    ·simp only [ropsCells, opCells, ho2, List.append_nil, List.mem_cons, List.not_mem_nil, or_false] at hu
     rcases hu with rfl | rfl | rfl | rfl | rfl | rfl | rfl | rfl | rfl <;> rfl
   obtain ⟨v', w', hrun, hown', hkk, hnn⟩ := append_strong Tryz.prog w1 72 72 119 i0 _ 9 96 Tryz.underlying72 hi hz0 hz1 hz2 rfl (by decide) _ _ _ (ownsRow_kept hrow hk' (fun _ _ h => h)) _ 1 _ hsrc (by decide) (by unfold maxLen; omega) (by omega)
   refine Lib.wp_append_run w1 _ _ _ _ rfl (.slice a l.length cp) (.slice (some ⟨vb, 0, none⟩) 1 1) (by simp [Act.eval, s13]) (by simp [Act.eval, s15]) v' w' (hrun _) ?_
   refine ⟨v', rfl, ⟨?_, fun k hk2 => ?_⟩, hkk⟩
   ·rw [ropsCells_append]; exact hown'
   ·rcases hnn k hk2 with h1 | h1
    ·exact Or.inl h1
    ·exact Or.inr (Nat.le_trans hk.size h1)
  ·intro vals w1 hk hvv
   have h3 : vals 3 = _ := hvv 3 (by decide)
   have h5 : vals 5 = _ := hvv 5 (by decide)
   obtain ⟨h16, h16b⟩ := hvv 16 (by decide)
   obtain ⟨v', hv'⟩ : ∃ v', vals 16 = v' := ⟨_, rfl⟩
   rw [hv'] at h16 h16b
   obtain ⟨a2, cp2, rfl, _, _⟩ := own_slice h16
   have hk' : Kept (fun k => (Value.slice a l.length cp).ownBlock = some k) W w1 := (((Kept.refl (fun _ => False) W).drew).mono (fun _ _ h => h.elim)).trans hk (fun _ _ h => h)
   have hRW := h.kept hW (fun _ _ h => h)
   obtain ⟨A1, A2⟩ := hRW.add hvp hl o h16 hk' h16b (fun b hb => Nat.lt_of_lt_of_le (hFl b hb) hW.size)
   have HA : Hid (∃ vs', RefAt (w1.setCell ⟨bo, o.1.peer, none⟩ (.slice a2 (l.length + 1) cp2)) (fun b => F b ∨ W.heap.size ≤ b) bp { s with ops := s.ops.modify o.1.peer (· ++ [o]) } rv bo vs' hv ∧ Kept F W (w1.setCell ⟨bo, o.1.peer, none⟩ (.slice a2 (l.length + 1) cp2))) := ⟨_, A1, A2⟩
   have hbo1 := hk'.heap (hW.heap h.opsB (fun h => h)) hSo
   have q0 := hk'.cell' (hW.cell' g0 (fun h => h)) hSo
   have qz := lt_of_heap hbo1
   have qf : ∀ j, w1.frozen? ⟨bo, j, none⟩ = false := Lib.frozen_of_heap hbo1
   clear hvv A1 A2 hRW h16 h16b hbo1 h hbox hrow
   simp only [List.take_succ_cons, List.take_zero, List.drop_succ_cons, List.drop_zero, putAll, Act.put, h3, h5, hv']
   simp only [Nat.reduceAdd, Nat.zero_add, List.setIfInBounds_toArray, List.set_cons_succ, List.set_cons_zero]
   go_wp2_with fail
   go_meet
   exact HA
 case rest =>
  obtain ⟨w2, hw2⟩ : ∃ x, x = wc := ⟨_, rfl⟩
  subst hw2
  obtain ⟨vs1, R1, K1⟩ := hcut.out
  clear hcut
  have hbx2 := K1.heap hbox (fun hf => by have := hFl _ hf; omega)
  obtain ⟨s1, hs1⟩ : ∃ s1, s1 = ({ s with ops := s.ops.modify o.1.peer (· ++ [o]) } : RSt) := ⟨_, rfl⟩
  rw [← hs1] at R1
  have hs1c : s1.clock = s.clock := by rw [hs1]
  have hs1r : s1.row = s.row := by rw [hs1]
  obtain ⟨d0, d1, d2, d3, d4, d5⟩ := R1.cells
  have bz := lt_of_heap R1.block
  have b3 : w2.cell? ⟨w.heap.size, 3, none⟩ = some (.int .i64 o.1.clock) := by rw [Lib.cell_of_heap hbx2]; rfl
  have xz := lt_of_heap hbx2
  have HB : Hid (RefAt w2 (fun b => F b ∨ W.heap.size ≤ b) bp s1 rv bo vs1 hv ∧ Kept F W w2 ∧ w2.heap[w.heap.size]? = some (.cells #[.bool o.1.ins, .int .i64 o.1.peer, .int .i64 o.1.num, .int .i64 o.1.clock, .slice oa on oc, .int .i64 o.1.nclock, .int .i64 o.1.npeer, .int .i64 o.1.char, .string ⟨o.1.packet.toArray⟩] 119 (0, 0))) := ⟨R1, K1, hbx2⟩
  have HW : Hid (Kept (fun _ => False) w W ∧ s1 = ({ s with ops := s.ops.modify o.1.peer (· ++ [o]) } : RSt)) := ⟨hW, hs1⟩
  have HFl : Hid (∀ b, F b → b < w.heap.size) := hFl
  have HP : Hid (F bp) := h.inP
  rw [hs1c] at d2
  have dfz : ∀ j, w2.frozen? ⟨bp, j, none⟩ = false := Lib.frozen_of_heap R1.block
  clear R1 K1 hbx2 h hbox hrow hSlt hSb hSo c0 c1 c2 c3 c4 c5 g0 hvp hl hkl hob hWe hW hbz hbx d0 d1 d3 d4 d5 hs1 hFl
  go_at_K
  go_upto_region 2 with fail
  go_cut [32] (fun v wd => v = .bool (decide ((s.clock : Int) < (o.1.clock : Int))) ∧ ∃ n, wd = w2.drewN n)
  case first =>
   go_quiet (fail)
   go_wp2_with fail
   go_meet
   exact ⟨by first | rfl | simp, nq, rfl⟩
  case rest =>
  obtain ⟨rfl, nq, rfl⟩ := hcut
  go_upto_if 32 with fail
  go_cut [33] (fun _ wd => Hid (RefAt wd (fun b => F b ∨ W.heap.size ≤ b) bp { s1 with clock := max s.clock o.1.clock } rv bo vs1 hv ∧ Kept F W wd ∧ wd.heap[w.heap.size]? = some (.cells #[.bool o.1.ins, .int .i64 o.1.peer, .int .i64 o.1.num, .int .i64 o.1.clock, .slice oa on oc, .int .i64 o.1.nclock, .int .i64 o.1.npeer, .int .i64 o.1.char, .string ⟨o.1.packet.toArray⟩] 119 (0, 0))))
  case first =>
   have b3' : (w2.drewN nq).cell? ⟨w.heap.size, 3, none⟩ = some (.int .i64 o.1.clock) := b3
   by_cases hc : s.clock < o.1.clock
   ·have hci : (s.clock : Int) < (o.1.clock : Int) := by omega
    have hcd : decide ((s.clock : Int) < (o.1.clock : Int)) = true := by rw [decide_eq_true_iff]; exact hci
    rw [hcd]
    have HF : Hid (RefAt ((w2.drewN nq).setCell ⟨bp, 2, none⟩ (.int .i64 o.1.clock)) (fun b => F b ∨ W.heap.size ≤ b) bp { s1 with clock := max s.clock o.1.clock } rv bo vs1 hv ∧ Kept F W ((w2.drewN nq).setCell ⟨bp, 2, none⟩ (.int .i64 o.1.clock)) ∧ ((w2.drewN nq).setCell ⟨bp, 2, none⟩ (.int .i64 o.1.clock)).heap[w.heap.size]? = some (.cells #[.bool o.1.ins, .int .i64 o.1.peer, .int .i64 o.1.num, .int .i64 o.1.clock, .slice oa on oc, .int .i64 o.1.nclock, .int .i64 o.1.npeer, .int .i64 o.1.char, .string ⟨o.1.packet.toArray⟩] 119 (0, 0))) := by
     obtain ⟨r1, r2, r3⟩ := HB.out
     have hq : Kept (fun _ => False) w2 (w2.drewN nq) := (Kept.refl _ w2).drewN nq
     have r1' := r1.kept hq (fun _ _ h => h)
     obtain ⟨q1, q2⟩ := r1'.clocked o.1.clock
     have kS : Kept (fun b => b = bp) (w2.drewN nq) ((w2.drewN nq).setCell ⟨bp, 2, none⟩ (.int .i64 o.1.clock)) := Kept.setCell (S := fun b => b = bp) (Kept.refl _ _) (p := ⟨bp, 2, none⟩) (fun _ => rfl) _
     refine ⟨?_, ?_, ?_⟩
     ·rw [show max s.clock o.1.clock = o.1.clock by omega]; exact q1
     ·exact (r2.trans hq (fun _ _ h => h.elim)).trans kS (fun b _ e => by rw [e]; exact HP.out)
     ·exact kS.heap (hq.heap r3 (fun h => h)) (fun e => by have := HFl.out bp HP.out; omega)
    go_wp2_with fail
    go_meet
    exact HF
   ·have hci : ¬ (s.clock : Int) < (o.1.clock : Int) := by omega
    have hcd : decide ((s.clock : Int) < (o.1.clock : Int)) = false := by rw [decide_eq_false_iff_not]; exact hci
    rw [hcd]
    have HF : Hid (RefAt (w2.drewN nq) (fun b => F b ∨ W.heap.size ≤ b) bp { s1 with clock := max s.clock o.1.clock } rv bo vs1 hv ∧ Kept F W (w2.drewN nq) ∧ (w2.drewN nq).heap[w.heap.size]? = some (.cells #[.bool o.1.ins, .int .i64 o.1.peer, .int .i64 o.1.num, .int .i64 o.1.clock, .slice oa on oc, .int .i64 o.1.nclock, .int .i64 o.1.npeer, .int .i64 o.1.char, .string ⟨o.1.packet.toArray⟩] 119 (0, 0))) := by
     obtain ⟨r1, r2, r3⟩ := HB.out
     have hq : Kept (fun _ => False) w2 (w2.drewN nq) := (Kept.refl _ w2).drewN nq
     refine ⟨?_, r2.trans hq (fun _ _ h => h.elim), hq.heap r3 (fun h => h)⟩
     have e : ({ s1 with clock := max s.clock o.1.clock } : RSt) = s1 := by
      rw [show max s.clock o.1.clock = s1.clock by rw [hs1c]; omega]
     rw [e]
     exact r1.kept hq (fun _ _ h => h)
    go_wp2_with fail
    go_meet
    exact HF
  case rest =>
  obtain ⟨w3, hw3⟩ : ∃ x, x = wc := ⟨_, rfl⟩
  subst hw3
  obtain ⟨R2, K2, hbx3⟩ := hcut.out
  clear hcut HB b3 xz bz d2 dfz
  obtain ⟨s2, hs2⟩ : ∃ s2, s2 = ({ s1 with clock := max s.clock o.1.clock } : RSt) := ⟨_, rfl⟩
  rw [← hs2] at R2
  have hs2r : s2.row = s.row := by rw [hs2]; exact hs1r
  have hfd := rfind_any R2 (o.1.nclock : Int) (o.1.npeer : Int) (by rw [hs2r]; omega)
  rw [hs2r] at hfd
  have x5 : w3.cell? ⟨w.heap.size, 5, none⟩ = some (.int .i64 o.1.nclock) := by rw [Lib.cell_of_heap hbx3]; rfl
  have x6 : w3.cell? ⟨w.heap.size, 6, none⟩ = some (.int .i64 o.1.npeer) := by rw [Lib.cell_of_heap hbx3]; rfl
  have bz := lt_of_heap R2.block
  have xz := lt_of_heap hbx3
  obtain ⟨A, hA⟩ : ∃ A : Int, A = findFrom o.1.nclock o.1.npeer s.row 0 := ⟨_, rfl⟩
  rw [← hA] at hfd
  have HR : Hid (RefAt w3 (fun b => F b ∨ W.heap.size ≤ b) bp s2 rv bo vs1 hv ∧ Kept F W w3 ∧ w3.heap[w.heap.size]? = some (.cells #[.bool o.1.ins, .int .i64 o.1.peer, .int .i64 o.1.num, .int .i64 o.1.clock, .slice oa on oc, .int .i64 o.1.nclock, .int .i64 o.1.npeer, .int .i64 o.1.char, .string ⟨o.1.packet.toArray⟩] 119 (0, 0))) := ⟨R2, K2, hbx3⟩
  clear R2 K2 hbx3
  go_wp2_with fail
  refine hfd.mono ?_
  rintro e1 w4 ⟨rfl, k4⟩
  clear hfd x5 x6 bz xz
  obtain ⟨R3, K3, hbx4⟩ := HR.out
  replace R3 := R3.kept k4 (fun _ _ h => h)
  replace K3 := K3.trans k4 (fun _ _ h => h.elim)
  replace hbx4 := k4.heap hbx4 (fun h => h)
  clear HR k4
  have x0 : w4.cell? ⟨w.heap.size, 0, none⟩ = some (.bool o.1.ins) := by rw [Lib.cell_of_heap hbx4]; rfl
  have xz := lt_of_heap hbx4
  have bz := lt_of_heap R3.block
  have hAl := findFrom_lo o.1.nclock o.1.npeer s.row 0
  have hAh := findFrom_le o.1.nclock o.1.npeer s.row
  rw [← hA] at hAl hAh
  have Hw : Hid (w.heap.size ≤ W.heap.size) := HW.out.1.size
  have HFin : Hid (∀ (row : List El) (w' : World) (rv' : Value), (if o.1.ins then insertEl s.row o.1.clock o.1.peer o.1.nclock o.1.npeer o.1.char else killEl s.row o.1.nclock o.1.npeer) = row → RefAt w' (fun b => F b ∨ W.heap.size ≤ b) bp { s2 with row := row } rv' bo vs1 hv → Kept F W w' → ∃ rv' vs', RefAt w' (fun b => F b ∨ w.heap.size ≤ b) bp (s.apply o) rv' bo vs' hv ∧ Kept F w w') := by
   intro row w' rv' hrow hR hK
   refine ⟨rv', vs1, ?_, (HW.out.1.mono (fun _ _ h => h.elim)).trans hK (fun _ _ h => h)⟩
   have e : s.apply o = { s2 with row := row } := by
    rw [hs2, HW.out.2]
    unfold RSt.apply
    rw [hrow]
   rw [e]
   exact hR.mono (fun b hb => hb.imp id (fun h => Nat.le_trans Hw.out h))
  have HA : Hid (A = findFrom o.1.nclock o.1.npeer s.row 0) := hA
  clear hA
  cases hI : o.1.ins with
  | false =>
   rw [hI] at x0
   by_cases hA0 : 0 ≤ A
   ·obtain ⟨i, rfl⟩ : ∃ i : Nat, A = i := ⟨A.toNat, by omega⟩
    have hil : i < s.row.length := by
     have := HA.out
     rcases findFrom_range o.1.nclock o.1.npeer s.row 0 with h | ⟨_, h⟩ <;> omega
    obtain ⟨e, hek⟩ : ∃ e, s.row[i]? = some e := ⟨_, List.getElem?_eq_getElem hil⟩
    rcases R3.row.2 with ⟨_, h0'⟩ | ⟨g, cap, cur, hrv, _, hg, hnc, _, hsz, _⟩
    ·rw [hs2r] at h0'; omega
    ·subst hrv
     have c3 := R3.cells.2.2.2.1
     obtain ⟨r1, r2⟩ := R3.killed i e (by rw [hs2r]; exact hek)
     have HE : Hid (∃ rv' vs', RefAt (w4.setCell ⟨g, i * 4 + 3, none⟩ (.bool true)) (fun b => F b ∨ w.heap.size ≤ b) bp (s.apply o) rv' bo vs' hv ∧ Kept F w (w4.setCell ⟨g, i * 4 + 3, none⟩ (.bool true))) := by
      refine HFin.out _ _ _ ?_ r1 (K3.trans r2 (fun b hb h => h.resolve_right (by omega)))
      rw [hI, hs2r]
      show killEl _ _ _ = _
      unfold killEl
      rw [← HA.out, if_pos hA0, Int.toNat_natCast]
     rw [hs2r] at c3
     have gz := lt_of_heap hg
     have gf : ∀ j, w4.frozen? ⟨g, j, none⟩ = false := Lib.frozen_of_heap hg
     have gc : ∃ u, w4.cell? ⟨g, i * 4 + 3, none⟩ = some u := by
      rw [Lib.cell_of_heap hg]
      exact ⟨_, Array.getElem?_eq_getElem (by rw [hsz]; rw [hs2r] at hnc; omega)⟩
     obtain ⟨u, gc⟩ := gc
     have hil2 : (i : Int) < (s.row.length : Int) := by omega
     clear R3 K3 hbx4 r1 r2 HFin hg hek HW HFl HP
     go_wp2_with fail
     ((try simp only [Exit.inBlock, Exit.then]); refine bodyPost_ret (results_none rfl _ _ _) rfl ?_)
     exact ⟨rfl, HE.out⟩
   ·have HE : Hid (∃ rv' vs', RefAt w4 (fun b => F b ∨ w.heap.size ≤ b) bp (s.apply o) rv' bo vs' hv ∧ Kept F w w4) := by
     refine HFin.out s.row _ _ ?_ (by rw [← hs2r]; exact R3) K3
     rw [hI]
     show killEl _ _ _ = _
     unfold killEl
     rw [← HA.out, if_neg hA0]
    have hA1 : A < 0 := by omega
    clear R3 K3 hbx4 HFin HW HFl HP
    go_wp2_with fail
    ((try simp only [Exit.inBlock, Exit.then]); refine bodyPost_ret (results_none rfl _ _ _) rfl ?_)
    exact ⟨rfl, HE.out⟩
  | true =>
   rw [hI] at x0
   have x1 : w4.cell? ⟨w.heap.size, 1, none⟩ = some (.int .i64 o.1.peer) := by rw [Lib.cell_of_heap hbx4]; rfl
   have x3 : w4.cell? ⟨w.heap.size, 3, none⟩ = some (.int .i64 o.1.clock) := by rw [Lib.cell_of_heap hbx4]; rfl
   have HR : Hid (RefAt w4 (fun b => F b ∨ W.heap.size ≤ b) bp s2 rv bo vs1 hv ∧ Kept F W w4 ∧ w4.heap[w.heap.size]? = some (.cells #[.bool o.1.ins, .int .i64 o.1.peer, .int .i64 o.1.num, .int .i64 o.1.clock, .slice oa on oc, .int .i64 o.1.nclock, .int .i64 o.1.npeer, .int .i64 o.1.char, .string ⟨o.1.packet.toArray⟩] 119 (0, 0))) := ⟨R3, K3, hbx4⟩
   clear R3 K3 hbx4
   go_upto_region 8 with fail
   go_cut [5] (fun v wd => v = .pointer (some ⟨w4.heap.size, 0, none⟩) ∧ wd.heap[w4.heap.size]? = some (.cells #[.int .i64 o.1.clock, .int .i64 o.1.peer] 76 (0, 0)) ∧ Kept (fun _ => False) w4 wd)
   case first =>
    go_wp2_with fail
    go_meet
    exact ⟨rfl, heap_alloc_new w4 _, (Kept.refl _ _).alloc _⟩
   case rest =>
   obtain ⟨w5, hw5⟩ : ∃ x, x = wc := ⟨_, rfl⟩
   subst hw5
   obtain ⟨rfl, hm, k5⟩ := hcut
   obtain ⟨mb, hmb⟩ : ∃ mb, w4.heap.size = mb := ⟨_, rfl⟩
   rw [hmb] at hm ⊢
   obtain ⟨R3, K3, hbx4⟩ := HR.out
   replace R3 := R3.kept k5 (fun _ _ h => h)
   replace K3 := K3.trans k5 (fun _ _ h => h.elim)
   replace hbx4 := k5.heap hbx4 (fun h => h)
   clear HR k5 x0 x1 x3 xz bz hmb
   obtain ⟨B, hB⟩ : ∃ B : Int, B = findFrom o.1.clock o.1.peer s.row 0 := ⟨_, rfl⟩
   have hfd := rfind_any R3 (o.1.clock : Int) (o.1.peer : Int) (by rw [hs2r]; omega)
   rw [hs2r, ← hB] at hfd
   have HB : Hid (B = findFrom o.1.clock o.1.peer s.row 0) := hB
   have hBl : -1 ≤ B := by rw [hB]; exact findFrom_lo _ _ _ _
   have hBh : B ≤ s.row.length := by rw [hB]; exact findFrom_le _ _ _
   clear hB
   have m0 : w5.cell? ⟨mb, 0, none⟩ = some (.int .i64 o.1.clock) := by rw [Lib.cell_of_heap hm]; rfl
   have m1 : w5.cell? ⟨mb, 1, none⟩ = some (.int .i64 o.1.peer) := by rw [Lib.cell_of_heap hm]; rfl
   have mz := lt_of_heap hm
   have bz := lt_of_heap R3.block
   have HR : Hid (RefAt w5 (fun b => F b ∨ W.heap.size ≤ b) bp s2 rv bo vs1 hv ∧ Kept F W w5 ∧ w5.heap[w.heap.size]? = some (.cells #[.bool o.1.ins, .int .i64 o.1.peer, .int .i64 o.1.num, .int .i64 o.1.clock, .slice oa on oc, .int .i64 o.1.nclock, .int .i64 o.1.npeer, .int .i64 o.1.char, .string ⟨o.1.packet.toArray⟩] 119 (0, 0)) ∧ w5.heap[mb]? = some (.cells #[.int .i64 o.1.clock, .int .i64 o.1.peer] 76 (0, 0))) := ⟨R3, K3, hbx4, hm⟩
   clear R3 K3 hbx4 hm
   go_wp2_with fail
   refine hfd.mono ?_
   rintro e2 w6 ⟨rfl, k6⟩
   clear hfd m0 m1 mz bz
   obtain ⟨R3, K3, hbx4, hm⟩ := HR.out
   replace R3 := R3.kept k6 (fun _ _ h => h)
   replace K3 := K3.trans k6 (fun _ _ h => h.elim)
   replace hbx4 := k6.heap hbx4 (fun h => h)
   replace hm := k6.heap hm (fun h => h)
   clear HR k6
   have x5 : w6.cell? ⟨w.heap.size, 5, none⟩ = some (.int .i64 o.1.nclock) := by rw [Lib.cell_of_heap hbx4]; rfl
   have xz := lt_of_heap hbx4
   have HR : Hid (RefAt w6 (fun b => F b ∨ W.heap.size ≤ b) bp s2 rv bo vs1 hv ∧ Kept F W w6 ∧ w6.heap[w.heap.size]? = some (.cells #[.bool o.1.ins, .int .i64 o.1.peer, .int .i64 o.1.num, .int .i64 o.1.clock, .slice oa on oc, .int .i64 o.1.nclock, .int .i64 o.1.npeer, .int .i64 o.1.char, .string ⟨o.1.packet.toArray⟩] 119 (0, 0)) ∧ w6.heap[mb]? = some (.cells #[.int .i64 o.1.clock, .int .i64 o.1.peer] 76 (0, 0))) := ⟨R3, K3, hbx4, hm⟩
   clear R3 K3 hbx4 hm
   go_upto_region 10 with fail
   go_cut [73] (fun v wd => v = .bool (decide (0 ≤ B ∨ (A < 0 ∧ (0 : Int) < o.1.nclock))) ∧ wd = w6)
   case first =>
    by_cases h1 : 0 ≤ B
    ·have hd : Hid (decide (0 ≤ B ∨ (A < 0 ∧ (0 : Int) < o.1.nclock)) = true) := decide_eq_true (Or.inl h1)
     go_wp2_with fail
     go_meet
     exact ⟨by rw [hd.out], rfl⟩
    ·by_cases h2 : A < 0
     ·by_cases h3 : (0 : Int) < o.1.nclock
      ·have hd : Hid (decide (0 ≤ B ∨ (A < 0 ∧ (0 : Int) < o.1.nclock)) = true) := decide_eq_true (Or.inr ⟨h2, h3⟩)
       have hd2 : 0 < o.1.nclock := by omega
       go_wp2_with fail
       go_meet
       exact ⟨by rw [hd.out], rfl⟩
      ·have hd : Hid (decide (0 ≤ B ∨ (A < 0 ∧ (0 : Int) < o.1.nclock)) = false) := decide_eq_false (by omega)
       have hd2 : ¬ 0 < o.1.nclock := by omega
       go_wp2_with fail
       go_meet
       exact ⟨by rw [hd.out], rfl⟩
     ·have hd : Hid (decide (0 ≤ B ∨ (A < 0 ∧ (0 : Int) < o.1.nclock)) = false) := decide_eq_false (by omega)
      go_wp2_with fail
      go_meet
      exact ⟨by rw [hd.out], rfl⟩
   case rest =>
   obtain ⟨rfl, rfl⟩ := hcut
   by_cases hret : 0 ≤ B ∨ (A < 0 ∧ (0 : Int) < o.1.nclock)
   ·rw [decide_eq_true hret]
    have HE : Hid (∃ rv' vs', RefAt wc (fun b => F b ∨ w.heap.size ≤ b) bp (s.apply o) rv' bo vs' hv ∧ Kept F w wc) := by
     obtain ⟨R3, K3, _, _⟩ := HR.out
     refine HFin.out s.row _ _ ?_ (by rw [← hs2r]; exact R3) K3
     rw [hI]
     show insertEl _ _ _ _ _ _ = _
     unfold insertEl
     rw [if_pos]
     rw [← HB.out]
     refine hret.imp id (fun h => ?_)
     unfold placeOk
     rw [← HA.out, if_neg (by omega)]
     exact decide_eq_false (by omega)
    clear HFin HR x5 hret
    go_wp2_with fail
    ((try simp only [Exit.inBlock, Exit.then]); refine bodyPost_ret (results_none rfl _ _ _) rfl ?_)
    exact ⟨rfl, HE.out⟩
   ·rw [decide_eq_false hret]
    obtain ⟨pl, hpl⟩ : ∃ pl : Nat, (pl : Int) = placeOf o.1.nclock o.1.npeer s.row := ⟨(placeOf o.1.nclock o.1.npeer s.row).toNat, by unfold placeOf; rw [← HA.out]; split <;> omega⟩
    have hplc : (pl : Int) = if (o.1.nclock : Int) = 0 then 0 else A + 1 := by
     rw [hpl]; unfold placeOf; rw [← HA.out]
     by_cases h0 : o.1.nclock = 0
     ·rw [if_pos ⟨by omega, by rw [hnm h0]; rfl⟩, if_pos (by omega)]
     ·rw [if_neg (by omega), if_neg (by omega)]
    have hpll : pl ≤ s.row.length := by
     have := HA.out
     rcases findFrom_range o.1.nclock o.1.npeer s.row 0 with h | ⟨_, h⟩ <;> split at hplc <;> omega
    have HI : Hid (insertEl s.row o.1.clock o.1.peer o.1.nclock o.1.npeer o.1.char = s.row.take (behindGreater o.1.clock o.1.peer (s.row.drop pl) pl) ++ ⟨o.1.clock, o.1.peer, o.1.char, false⟩ :: s.row.drop (behindGreater o.1.clock o.1.peer (s.row.drop pl) pl)) := by
     show insertEl _ _ _ _ _ _ = _
     unfold insertEl
     rw [if_neg, ← hpl, Int.toNat_natCast]
     rw [← HB.out]
     unfold placeOk
     rw [← HA.out]
     rintro (h | h)
     ·exact hret (Or.inl h)
     ·split at h
      ·cases h
      ·have := of_decide_eq_false h
       refine hret (Or.inr ⟨by omega, ?_⟩)
       have h0 : o.1.nclock ≠ 0 := fun e => by have := hnm e; omega
       omega
    clear hpl
    go_upto_if 79 with fail
    go_cut [4] (fun v wd => v = .int .i64 pl ∧ wd = wc)
    case first =>
     by_cases h0 : (o.1.nclock : Int) = 0
     ·rw [if_pos h0] at hplc
      have hq : Hid ((pl : Int) = 0) := hplc
      clear hplc
      go_wp2_with fail
      go_meet
      exact ⟨by rw [hq.out], rfl⟩
     ·rw [if_neg h0] at hplc
      have hq : Hid ((pl : Int) = A + 1) := hplc
      clear hplc
      go_wp2_with fail
      go_meet
      exact ⟨by rw [hq.out], rfl⟩
    case rest =>
    obtain ⟨rfl, rfl⟩ := hcut
    obtain ⟨w6, hw6⟩ : ∃ x, x = wc := ⟨_, rfl⟩
    subst hw6
    clear x5 hplc hret hnm hAl hAh hBl hBh
    obtain ⟨q, hq⟩ : ∃ q : Nat, behindGreater o.1.clock o.1.peer (s.row.drop pl) pl = q := ⟨_, rfl⟩
    rw [hq] at HI
    have HQ : Hid (behindGreater o.1.clock o.1.peer (s.row.drop pl) pl = q) := hq
    clear hq
    obtain ⟨R3, K3, hbx4, hm⟩ := HR.out
    obtain ⟨a, cp, hrv, hel⟩ := relems_of_own R3.row
    subst hrv
    rw [hs2r] at hel
    have c3' := R3.cells.2.2.2.1
    rw [hs2r] at c3'
    have m0' : w6.cell? ⟨mb, 0, none⟩ = some (.int .i64 o.1.clock) := by rw [Lib.cell_of_heap hm]; rfl
    have m1' : w6.cell? ⟨mb, 1, none⟩ = some (.int .i64 o.1.peer) := by rw [Lib.cell_of_heap hm]; rfl
    clear R3 K3 hbx4 hm
    go_upto_block 0 with fail
    go_cut [4] (fun v wd => v = .int .i64 q ∧ q ≤ s.row.length ∧ Kept (fun _ => False) w6 wd)
    case first =>
     go_wp2_with fail
     go_loopw [4] (fun v wr => ∃ k : Nat, k ≤ s.row.length ∧ v = .int .i64 k ∧ Kept (fun _ => False) w6 wr ∧ Hid (behindGreater o.1.clock o.1.peer (s.row.drop k) k = q)) (fun v _ => s.row.length - (intOf v).toNat)
     case atStart => exact ⟨pl, hpll, rfl, Kept.refl _ _, HQ⟩
     case round =>
      obtain ⟨k, hk, rfl, hkp, hqk⟩ := hrel
      have c3 := hkp.cell' c3' (fun h => h)
      have m0 := hkp.cell' m0' (fun h => h)
      have m1 := hkp.cell' m1' (fun h => h)
      go_upto_region 14 with fail
      go_cut [98] (fun v wd => v = .bool (contAt o.1.clock o.1.peer s.row k) ∧ Kept (fun _ => False) wr wd)
      case first =>
       by_cases hkl : k < s.row.length
       ·obtain ⟨e, hek⟩ : ∃ e, s.row[k]? = some e := ⟨_, List.getElem?_eq_getElem hkl⟩
        obtain ⟨g, rfl, heg⟩ := hel (by intro h; rw [h] at hkl; simp at hkl)
        obtain ⟨e0, e1, _, _⟩ := (heg.kept hkp (fun h => h)) k e hek
        have hki : (k : Int) < (s.row.length : Int) := by omega
        have hct : Hid (contAt o.1.clock o.1.peer s.row k = greaterB e.clock e.peer o.1.clock o.1.peer) := by
         show contAt _ _ _ _ = _
         unfold contAt; rw [hek]; rfl
        clear hek heg hel
        refine wp_region_byG (by kernel_rfl) _ rfl (by kernel_rfl) (fun i v wx => match i with
         | 0 => v = .int .i64 k
         | 1 => v = .pointer (some ⟨bp, 0, none⟩)
         | 2 => v = .pointer (some ⟨bp, 0, none⟩)
         | 3 => v = .pointer (some ⟨bp, 3, none⟩)
         | 4 => v = .slice (some ⟨g, 0, none⟩) s.row.length cp
         | 5 => v = .int .i64 s.row.length
         | 6 => v = .bool true
         | 7 => v = .bool true
         | 8 => v = .pointer (some ⟨bp, 0, none⟩)
         | 9 => v = .pointer (some ⟨bp, 0, none⟩)
         | 10 => v = .pointer (some ⟨bp, 3, none⟩)
         | 11 => v = .slice (some ⟨g, 0, none⟩) s.row.length cp
         | 12 => v = .int .i64 k
         | 13 => v = .pointer (some ⟨g, k * 4, none⟩)
         | 14 => v = .pointer (some ⟨g, k * 4, none⟩)
         | 15 => v = .agg #[.int .i64 e.clock, .int .i64 e.peer]
         | 16 => v = .agg #[.int .i64 o.1.clock, .int .i64 o.1.peer]
         | 17 => v = .bool (greaterB e.clock e.peer o.1.clock o.1.peer)
         | _ => v = .bool (greaterB e.clock e.peer o.1.clock o.1.peer)) ?_ ?_ ?_
        ·intro i v wa wb hv hk
         split at hv
         all_goals exact hv
        ·intro i o' hi a' wa up
         have hkx : Kept (fun _ => False) wr wa := ((Kept.refl _ wr).drew).trans' up.kept
         have y3 := hkx.cell' c3 (fun h => h)
         have z0 := hkx.cell' e0 (fun h => h)
         have z1 := hkx.cell' e1 (fun h => h)
         have ym0 := hkx.cell' m0 (fun h => h)
         have ym1 := hkx.cell' m1 (fun h => h)
         have hold : ∀ d : Nat, (d = 0 ∨ d = 4 ∨ d = 5) → a'.tmps[d]? = _ := fun d hd => up.old d (by
          intro j oj hj hjd
          exfalso
          rcases j with _ | _ | _ | _ | _ | _ | _ | _ | _ | _ | _ | _ | _ | _ | _ | _ | _ | _ | _ | j <;> simp at hj <;> subst hj <;> simp at hjd <;> omega)
         have o0 := hold 0 (by decide)
         have o4 := hold 4 (by decide)
         have o5 := hold 5 (by decide)
         simp at o0 o4 o5
         clear hold
         rcases i with _ | _ | _ | _ | _ | _ | _ | _ | _ | _ | _ | _ | _ | _ | _ | _ | _ | _ | _ | i
         all_goals simp only [List.getElem?_cons_zero, List.getElem?_cons_succ, List.getElem?_nil, Option.some.injEq, reduceCtorEq] at hi
         all_goals try subst hi
         ·left
          refine ⟨by simp [Region.wanted], ?_⟩
          simp [Oper.wp, go_sem, Act.eval, o4]
          exact ⟨_, rfl, rfl, Kept.refl _ _⟩
         ·left
          refine ⟨by simp [Region.wanted], ?_⟩
          simp [Oper.wp, go_sem, Act.eval, o0]
          exact ⟨_, rfl, rfl, Kept.refl _ _⟩
         ·obtain ⟨_, s1, rfl⟩ := up.d 1 81 rfl rfl
          left
          refine ⟨by simp [Region.wanted], ?_⟩
          simp [Oper.wp, go_sem, Act.eval, s1]
          exact ⟨_, rfl, rfl, Kept.refl _ _⟩
         ·obtain ⟨_, s2, rfl⟩ := up.d 2 82 rfl rfl
          left
          refine ⟨by simp [Region.wanted], ?_⟩
          simp [Oper.wp, go_sem, Act.eval, s2]
          exact ⟨_, rfl, rfl, Kept.refl _ _⟩
         ·obtain ⟨_, s3, rfl⟩ := up.d 3 83 rfl rfl
          left
          refine ⟨by simp [Region.wanted], ?_⟩
          simp [Oper.wp, go_sem, Act.eval, s3, y3]
          exact ⟨_, rfl, rfl, Kept.refl _ _⟩
         ·obtain ⟨_, s4, rfl⟩ := up.d 4 84 rfl rfl
          left
          refine ⟨by simp [Region.wanted], ?_⟩
          simp [Oper.wp, go_sem, Act.eval, s4]
          exact ⟨_, rfl, rfl, Kept.refl _ _⟩
         ·obtain ⟨_, s0, rfl⟩ := up.d 0 80 rfl rfl
          obtain ⟨_, s5, rfl⟩ := up.d 5 85 rfl rfl
          left
          refine ⟨by simp [Region.wanted], ?_⟩
          simp [Oper.wp, go_sem, Act.eval, s0, s5, hki]
          exact ⟨_, rfl, rfl, Kept.refl _ _⟩
         ·obtain ⟨_, s6, rfl⟩ := up.d 6 86 rfl rfl
          left
          refine ⟨by simp [Region.wanted], ?_⟩
          simp [Oper.wp, go_sem, Act.eval, s6]
          exact ⟨_, rfl, rfl, Kept.refl _ _⟩
         ·obtain ⟨_, s7, rfl⟩ := up.d 7 87 rfl rfl
          left
          refine ⟨by simp [Region.wanted, yielded, s7], ?_⟩
          simp [Oper.wp, go_sem, Act.eval, o0]
          exact ⟨_, rfl, rfl, Kept.refl _ _⟩
         ·obtain ⟨_, s7, rfl⟩ := up.d 7 87 rfl rfl
          obtain ⟨_, s8, rfl⟩ := up.d 8 88 rfl rfl
          left
          refine ⟨by simp [Region.wanted, yielded, s7], ?_⟩
          simp [Oper.wp, go_sem, Act.eval, s8]
          exact ⟨_, rfl, rfl, Kept.refl _ _⟩
         ·obtain ⟨_, s7, rfl⟩ := up.d 7 87 rfl rfl
          obtain ⟨_, s9, rfl⟩ := up.d 9 89 rfl rfl
          left
          refine ⟨by simp [Region.wanted, yielded, s7], ?_⟩
          simp [Oper.wp, go_sem, Act.eval, s9]
          exact ⟨_, rfl, rfl, Kept.refl _ _⟩
         ·obtain ⟨_, s7, rfl⟩ := up.d 7 87 rfl rfl
          obtain ⟨_, s10, rfl⟩ := up.d 10 90 rfl rfl
          left
          refine ⟨by simp [Region.wanted, yielded, s7], ?_⟩
          simp [Oper.wp, go_sem, Act.eval, s10, y3]
          exact ⟨_, rfl, rfl, Kept.refl _ _⟩
         ·obtain ⟨_, s7, rfl⟩ := up.d 7 87 rfl rfl
          left
          refine ⟨by simp [Region.wanted, yielded, s7], ?_⟩
          simp [Oper.wp, go_sem, Act.eval, o4]
          exact ⟨_, rfl, rfl, Kept.refl _ _⟩
         ·obtain ⟨_, s7, rfl⟩ := up.d 7 87 rfl rfl
          obtain ⟨_, s11, rfl⟩ := up.d 11 91 rfl rfl
          obtain ⟨_, s12, rfl⟩ := up.d 12 92 rfl rfl
          left
          refine ⟨by simp [Region.wanted, yielded, s7], ?_⟩
          simp [Oper.wp, go_sem, Act.eval, s11, s12, hki, hkl]
          exact ⟨_, rfl, rfl, Kept.refl _ _⟩
         ·obtain ⟨_, s7, rfl⟩ := up.d 7 87 rfl rfl
          obtain ⟨_, s13, rfl⟩ := up.d 13 93 rfl rfl
          left
          refine ⟨by simp [Region.wanted, yielded, s7], ?_⟩
          simp [Oper.wp, go_sem, Act.eval, s13]
          exact ⟨_, rfl, rfl, Kept.refl _ _⟩
         ·obtain ⟨_, s7, rfl⟩ := up.d 7 87 rfl rfl
          obtain ⟨_, s14, rfl⟩ := up.d 14 94 rfl rfl
          left
          refine ⟨by simp [Region.wanted, yielded, s7], ?_⟩
          simp [Oper.wp, go_sem, Act.eval, s14, z0, z1]
          exact ⟨_, rfl, rfl, Kept.refl _ _⟩
         ·obtain ⟨_, s7, rfl⟩ := up.d 7 87 rfl rfl
          left
          refine ⟨by simp [Region.wanted, yielded, s7], ?_⟩
          simp [Oper.wp, go_sem, Act.eval, o5, ym0, ym1]
          exact ⟨_, rfl, rfl, Kept.refl _ _⟩
         ·obtain ⟨_, s7, rfl⟩ := up.d 7 87 rfl rfl
          obtain ⟨_, s15, rfl⟩ := up.d 15 95 rfl rfl
          obtain ⟨_, s16, rfl⟩ := up.d 16 96 rfl rfl
          left
          refine ⟨by simp [Region.wanted, yielded, s7], ?_⟩
          simp [Oper.wp, go_sem, Act.eval, s15, s16]
          refine (rgreater_any e.clock e.peer o.1.clock o.1.peer wa).mono ?_
          rintro e' w' ⟨rfl, hk'⟩
          exact ⟨_, rfl, rfl, hk'⟩
         ·obtain ⟨_, s7, rfl⟩ := up.d 7 87 rfl rfl
          obtain ⟨_, s17, rfl⟩ := up.d 17 97 rfl rfl
          left
          refine ⟨by simp [Region.wanted], ?_⟩
          simp [Oper.wp, go_sem, Act.eval, s7, s17]
          exact ⟨_, rfl, rfl, Kept.refl _ _⟩
        ·intro vals wz hk hv'
         have h18 : vals 18 = _ := hv' 18 (by decide)
         have hk0 : Kept (fun _ => False) wr wz := ((Kept.refl _ wr).drew).trans' hk
         clear hv'
         simp only [putAll, Act.put, h18]
         simp only [Nat.reduceAdd, Nat.zero_add, List.setIfInBounds_toArray, List.set_cons_succ, List.set_cons_zero]
         go_wp2_with fail
         go_meet
         exact ⟨by rw [hct.out], hk0⟩
       ·have hki : ¬ (k : Int) < (s.row.length : Int) := by omega
        have hct : Hid (contAt o.1.clock o.1.peer s.row k = false) := by
         show contAt _ _ _ _ = _
         unfold contAt; rw [List.getElem?_eq_none (by omega)]
        clear hel
        refine wp_region_byG (by kernel_rfl) _ rfl (by kernel_rfl) (fun i v wx => match i with
         | 0 => v = .int .i64 k
         | 1 => v = .pointer (some ⟨bp, 0, none⟩)
         | 2 => v = .pointer (some ⟨bp, 0, none⟩)
         | 3 => v = .pointer (some ⟨bp, 3, none⟩)
         | 4 => v = .slice a s.row.length cp
         | 5 => v = .int .i64 s.row.length
         | 6 => v = .bool false
         | 7 => v = .bool false
         | 8 => True
         | 9 => True
         | 10 => True
         | 11 => True
         | 12 => True
         | 13 => True
         | 14 => True
         | 15 => True
         | 16 => True
         | 17 => True
         | _ => v = .bool false) ?_ ?_ ?_
        ·intro i v wa wb hv hk
         split at hv
         all_goals exact hv
        ·intro i o' hi a' wa up
         have hkx : Kept (fun _ => False) wr wa := ((Kept.refl _ wr).drew).trans' up.kept
         have y3 := hkx.cell' c3 (fun h => h)
         have hold : ∀ d : Nat, (d = 0 ∨ d = 4 ∨ d = 5) → a'.tmps[d]? = _ := fun d hd => up.old d (by
          intro j oj hj hjd
          exfalso
          rcases j with _ | _ | _ | _ | _ | _ | _ | _ | _ | _ | _ | _ | _ | _ | _ | _ | _ | _ | _ | j <;> simp at hj <;> subst hj <;> simp at hjd <;> omega)
         have o0 := hold 0 (by decide)
         have o4 := hold 4 (by decide)
         have o5 := hold 5 (by decide)
         simp at o0 o4 o5
         clear hold
         rcases i with _ | _ | _ | _ | _ | _ | _ | _ | _ | _ | _ | _ | _ | _ | _ | _ | _ | _ | _ | i
         all_goals simp only [List.getElem?_cons_zero, List.getElem?_cons_succ, List.getElem?_nil, Option.some.injEq, reduceCtorEq] at hi
         all_goals try subst hi
         ·left
          refine ⟨by simp [Region.wanted], ?_⟩
          simp [Oper.wp, go_sem, Act.eval, o4]
          exact ⟨_, rfl, rfl, Kept.refl _ _⟩
         ·left
          refine ⟨by simp [Region.wanted], ?_⟩
          simp [Oper.wp, go_sem, Act.eval, o0]
          exact ⟨_, rfl, rfl, Kept.refl _ _⟩
         ·obtain ⟨_, s1, rfl⟩ := up.d 1 81 rfl rfl
          left
          refine ⟨by simp [Region.wanted], ?_⟩
          simp [Oper.wp, go_sem, Act.eval, s1]
          exact ⟨_, rfl, rfl, Kept.refl _ _⟩
         ·obtain ⟨_, s2, rfl⟩ := up.d 2 82 rfl rfl
          left
          refine ⟨by simp [Region.wanted], ?_⟩
          simp [Oper.wp, go_sem, Act.eval, s2]
          exact ⟨_, rfl, rfl, Kept.refl _ _⟩
         ·obtain ⟨_, s3, rfl⟩ := up.d 3 83 rfl rfl
          left
          refine ⟨by simp [Region.wanted], ?_⟩
          simp [Oper.wp, go_sem, Act.eval, s3, y3]
          exact ⟨_, rfl, rfl, Kept.refl _ _⟩
         ·obtain ⟨_, s4, rfl⟩ := up.d 4 84 rfl rfl
          left
          refine ⟨by simp [Region.wanted], ?_⟩
          simp [Oper.wp, go_sem, Act.eval, s4]
          exact ⟨_, rfl, rfl, Kept.refl _ _⟩
         ·obtain ⟨_, s0, rfl⟩ := up.d 0 80 rfl rfl
          obtain ⟨_, s5, rfl⟩ := up.d 5 85 rfl rfl
          left
          refine ⟨by simp [Region.wanted], ?_⟩
          simp [Oper.wp, go_sem, Act.eval, s0, s5, hki]
          exact ⟨_, rfl, rfl, Kept.refl _ _⟩
         ·obtain ⟨_, s6, rfl⟩ := up.d 6 86 rfl rfl
          left
          refine ⟨by simp [Region.wanted], ?_⟩
          simp [Oper.wp, go_sem, Act.eval, s6]
          exact ⟨_, rfl, rfl, Kept.refl _ _⟩
         ·obtain ⟨_, s7, rfl⟩ := up.d 7 87 rfl rfl
          right
          exact ⟨by simp [Region.wanted, yielded, s7], trivial⟩
         ·obtain ⟨_, s7, rfl⟩ := up.d 7 87 rfl rfl
          right
          exact ⟨by simp [Region.wanted, yielded, s7], trivial⟩
         ·obtain ⟨_, s7, rfl⟩ := up.d 7 87 rfl rfl
          right
          exact ⟨by simp [Region.wanted, yielded, s7], trivial⟩
         ·obtain ⟨_, s7, rfl⟩ := up.d 7 87 rfl rfl
          right
          exact ⟨by simp [Region.wanted, yielded, s7], trivial⟩
         ·obtain ⟨_, s7, rfl⟩ := up.d 7 87 rfl rfl
          right
          exact ⟨by simp [Region.wanted, yielded, s7], trivial⟩
         ·obtain ⟨_, s7, rfl⟩ := up.d 7 87 rfl rfl
          right
          exact ⟨by simp [Region.wanted, yielded, s7], trivial⟩
         ·obtain ⟨_, s7, rfl⟩ := up.d 7 87 rfl rfl
          right
          exact ⟨by simp [Region.wanted, yielded, s7], trivial⟩
         ·obtain ⟨_, s7, rfl⟩ := up.d 7 87 rfl rfl
          right
          exact ⟨by simp [Region.wanted, yielded, s7], trivial⟩
         ·obtain ⟨_, s7, rfl⟩ := up.d 7 87 rfl rfl
          right
          exact ⟨by simp [Region.wanted, yielded, s7], trivial⟩
         ·obtain ⟨_, s7, rfl⟩ := up.d 7 87 rfl rfl
          right
          exact ⟨by simp [Region.wanted, yielded, s7], trivial⟩
         ·obtain ⟨_, s7, rfl⟩ := up.d 7 87 rfl rfl
          left
          refine ⟨by simp [Region.wanted], ?_⟩
          simp [Oper.wp, go_sem, Act.eval, s7]
          exact ⟨_, rfl, rfl, Kept.refl _ _⟩
        ·intro vals wz hk hv'
         have h18 : vals 18 = _ := hv' 18 (by decide)
         have hk0 : Kept (fun _ => False) wr wz := ((Kept.refl _ wr).drew).trans' hk
         clear hv'
         simp only [putAll, Act.put, h18]
         simp only [Nat.reduceAdd, Nat.zero_add, List.setIfInBounds_toArray, List.set_cons_succ, List.set_cons_zero]
         go_wp2_with fail
         go_meet
         exact ⟨by rw [hct.out], hk0⟩
      case rest =>
      obtain ⟨rfl, kc⟩ := hcut
      cases hc : contAt o.1.clock o.1.peer s.row k with
      | false =>
       have hfin : Hid (k = q) := by
        have := hqk.out
        rw [behindGreater_cont, hc] at this
        exact this
       have HK : Hid (Kept (fun _ => False) w6 wc) := hkp.trans' kc
       clear hel hc hkp kc
       go_wp2_with fail
       go_meet
       exact ⟨by rw [hfin.out], by rw [← hfin.out]; exact hk, HK.out⟩
      | true =>
       have hlt := contAt_lt _ _ _ _ hc
       have hfin : Hid (behindGreater o.1.clock o.1.peer (s.row.drop (k + 1)) (k + 1) = q) := by
        have := hqk.out
        rw [behindGreater_cont, hc] at this
        exact this
       have HK : Hid (Kept (fun _ => False) w6 wc) := hkp.trans' kc
       clear hel hc hkp kc
       go_wp2_with fail
       go_roundw
       case rel => exact ⟨k + 1, hlt, by go_num, HK.out, hfin⟩
       case measure => simp [intOf]; omega
    case rest =>
    obtain ⟨rfl, hql, k7⟩ := hcut
    obtain ⟨w7, hw7⟩ : ∃ x, x = wc := ⟨_, rfl⟩
    subst hw7
    obtain ⟨R3, K3, hbx4, hm⟩ := HR.out
    replace R3 := R3.kept k7 (fun _ _ h => h)
    replace K3 := K3.trans k7 (fun _ _ h => h.elim)
    replace hbx4 := k7.heap hbx4 (fun h => h)
    replace hm := k7.heap hm (fun h => h)
    clear HR k7 hel c3' m0' m1' HQ HA HB HFl HW
    obtain ⟨i0, hi0, hz0, hzs, hzb⟩ := info_parts info_relem
    have hrow := R3.row
    rw [hs2r] at hrow
    have c3 := R3.cells.2.2.2.1
    rw [hs2r] at c3
    have key : ∀ (X Y : Value), Src Tryz.prog 4 71 X q (rrow (s.row.take q)) w7 → (∀ w', Kept (fun _ => False) w7 w' → Src Tryz.prog 4 71 Y (s.row.length - q) (rrow (s.row.drop q)) w') →
      ∃ v1 w8 v2 w9 v3 w10, (∀ ty, (Builtin.append_ #[71, 71] ty #[.slice none 0 0, X]).run Tryz.prog w7 = .ok v1 w8) ∧
       (∀ ty, (Builtin.append_ #[71, 71] ty #[v1, .slice (some ⟨w8.heap.size, 0, none⟩) 1 1]).run Tryz.prog (w8.alloc (.cells #[.int .i64 o.1.clock, .int .i64 o.1.peer, .int .i64 o.1.char, .bool false] 78)) = .ok v2 w9) ∧
       (∀ ty, (Builtin.append_ #[71, 71] ty #[v2, Y]).run Tryz.prog w9 = .ok v3 w10) ∧
       Kept (fun _ => False) w7 w8 ∧ Kept (fun _ => False) w7 w9 ∧ Kept (fun _ => False) w7 w10 ∧ w10.ownsRow 0 78 4 v3 (insertEl s.row o.1.clock o.1.peer o.1.nclock o.1.npeer o.1.char).length (rrow (insertEl s.row o.1.clock o.1.peer o.1.nclock o.1.npeer o.1.char)) ∧ (∀ b, v3.ownBlock = some b → w7.heap.size ≤ b) := by
     intro X Y hX hY
     obtain ⟨v1, w8, r1, own1, kk1, nb1⟩ := append_any Tryz.prog w7 71 71 78 i0 _ 4 32 Tryz.underlying71 hi0 hz0 hzs hzb rfl (by decide) (.slice none 0 0) 0 [] (World.ownsRow_nil _ _ _ _) X q _ hX (by unfold maxLen; omega) (by omega)
     have nb1' : ∀ b, v1.ownBlock = some b → w7.heap.size ≤ b := fun b hb => by
      rcases nb1 b hb with h | h
      ·cases h
      ·exact h
     have kk1' : Kept (fun _ => False) w7 w8 := kk1.mono (fun _ _ h => by cases h)
     obtain ⟨w8', hw8'⟩ : ∃ x, x = w8.alloc (.cells #[.int .i64 o.1.clock, .int .i64 o.1.peer, .int .i64 o.1.char, .bool false] 78) := ⟨_, rfl⟩
     have ka : Kept (fun _ => False) w8 w8' := by rw [hw8']; exact (Kept.refl _ _).alloc _
     have hbx : w8'.heap[w8.heap.size]? = some (.cells #[.int .i64 o.1.clock, .int .i64 o.1.peer, .int .i64 o.1.char, .bool false] 78 (0, 0)) := by rw [hw8']; exact heap_alloc_new w8 _
     have hs2 : Src Tryz.prog 4 71 (.slice (some ⟨w8.heap.size, 0, none⟩) 1 1) 1 (rrow [⟨o.1.clock, o.1.peer, o.1.char, false⟩]) w8' := by
      refine Src.ofSlice w8' Tryz.underlying71 _ 1 1 _ rfl (fun j u hj => ?_) (rrow_oneCell _)
      rw [Addr.add_lit, Nat.zero_add, Lib.cell_of_heap hbx]
      simpa [rrow, rcellsOf] using hj
     have own1' := ownsRow_kept own1 ka (fun _ _ h => h)
     obtain ⟨v2, w9, r2, own2, kk2, nb2⟩ := append_any Tryz.prog w8' 71 71 78 i0 _ 4 32 Tryz.underlying71 hi0 hz0 hzs hzb rfl (by decide) v1 _ _ own1' _ 1 _ hs2 (by unfold maxLen; omega) (by omega)
     have kk2' : Kept (fun _ => False) w7 w9 := (kk1'.trans' ka).trans kk2 (fun b hb h => by have := nb1' b h; omega)
     have nb2' : ∀ b, v2.ownBlock = some b → w7.heap.size ≤ b := fun b hb => by
      rcases nb2 b hb with h | h
      ·exact nb1' b h
      ·exact Nat.le_trans (Nat.le_trans kk1'.size ka.size) h
     obtain ⟨v3, w10, r3, own3, kk3, nb3⟩ := append_any Tryz.prog w9 71 71 78 i0 _ 4 32 Tryz.underlying71 hi0 hz0 hzs hzb rfl (by decide) v2 _ _ own2 Y _ _ (hY w9 kk2') (by unfold maxLen; omega) (by omega)
     have kk3' : Kept (fun _ => False) w7 w10 := kk2'.trans kk3 (fun b hb h => by have := nb2' b h; omega)
     refine ⟨v1, w8, v2, w9, v3, w10, r1, by rw [← hw8']; exact r2, r3, kk1', kk2', kk3', ?_, fun b hb => ?_⟩
     ·rw [HI.out]
      have e1 : (s.row.take q ++ (⟨o.1.clock, o.1.peer, o.1.char, false⟩ : El) :: s.row.drop q).length = 0 + q + 1 + (s.row.length - q) := by simp; omega
      rw [e1]
      have e2 : rrow (s.row.take q ++ (⟨o.1.clock, o.1.peer, o.1.char, false⟩ : El) :: s.row.drop q) = [] ++ rrow (s.row.take q) ++ rrow [⟨o.1.clock, o.1.peer, o.1.char, false⟩] ++ rrow (s.row.drop q) := by
       rw [show (⟨o.1.clock, o.1.peer, o.1.char, false⟩ : El) :: s.row.drop q = [⟨o.1.clock, o.1.peer, o.1.char, false⟩] ++ s.row.drop q from rfl, rrow_append, rrow_append]
       simp
      rw [e2]
      exact own3
     ·rcases nb3 b hb with h | h
      ·exact nb2' b h
      ·exact Nat.le_trans kk2'.size h
    have fin : ∀ (v3 : Value) (w10 : World), Kept (fun _ => False) w7 w10 → w10.ownsRow 0 78 4 v3 (insertEl s.row o.1.clock o.1.peer o.1.nclock o.1.npeer o.1.char).length (rrow (insertEl s.row o.1.clock o.1.peer o.1.nclock o.1.npeer o.1.char)) → (∀ b, v3.ownBlock = some b → w7.heap.size ≤ b) →
      ∃ rv' vs', RefAt (w10.setCell ⟨bp, 3, none⟩ v3) (fun b => F b ∨ w.heap.size ≤ b) bp (s.apply o) rv' bo vs' hv ∧ Kept F w (w10.setCell ⟨bp, 3, none⟩ v3) := by
     intro v3 w10 k10 own nb
     obtain ⟨q1, q2⟩ := R3.rowed k10 _ own nb
     refine HFin.out _ _ _ ?_ (q1.mono (fun b h => h.elim id (fun h => Or.inr (Nat.le_trans K3.size h)))) (K3.trans q2 (fun b hb h => h.resolve_right (by omega)))
     rw [hI]
     rfl
    have hx7 : w7.cell? ⟨w.heap.size, 7, none⟩ = some (.int .i64 o.1.char) := by rw [Lib.cell_of_heap hbx4]; rfl
    have hm0 : w7.cell? ⟨mb, 0, none⟩ = some (.int .i64 o.1.clock) := by rw [Lib.cell_of_heap hm]; rfl
    have hm1 : w7.cell? ⟨mb, 1, none⟩ = some (.int .i64 o.1.peer) := by rw [Lib.cell_of_heap hm]; rfl
    have hx7z := lt_of_heap hbx4
    have hmz := lt_of_heap hm
    have hbz := lt_of_heap R3.block
    have hqi : (q : Int) ≤ (s.row.length : Int) := by omega
    rcases hrow.2 with ⟨he, h0⟩ | ⟨g, cap, cur, he, _, hg, hnc, hmx, hsz, htk⟩
    ·simp only [Value.slice.injEq] at he
     obtain ⟨rfl, hn0, rfl⟩ := he
     have hq0 : q = 0 := by omega
     have hr0 : s.row = [] := List.length_eq_zero_iff.1 hn0
     subst hq0
     obtain ⟨v1, w8, v2, w9, v3, w10, r1, r2, r3, k8, k9, k10, own, nb⟩ := key (.slice none 0 0) (.slice none 0 0) (by rw [hr0]; exact Src.ofNil _ Tryz.underlying71 0) (fun w' _ => by rw [hr0]; exact Src.ofNil _ Tryz.underlying71 0)
     obtain ⟨a3, cp3, rfl, _, _⟩ := own_slice own
     have HE : Hid (∃ rv' vs', RefAt (w10.setCell ⟨bp, 3, none⟩ (.slice a3 _ cp3)) (fun b => F b ∨ w.heap.size ≤ b) bp (s.apply o) rv' bo vs' hv ∧ Kept F w (w10.setCell ⟨bp, 3, none⟩ (.slice a3 _ cp3))) := fin _ w10 k10 own nb
     have c3b := k9.cell' c3 (fun h => h)
     have c3c := k10.cell' c3 (fun h => h)
     have x7 := k8.cell' hx7 (fun h => h)
     have m0 := k8.cell' hm0 (fun h => h)
     have m1 := k8.cell' hm1 (fun h => h)
     have z8 : bp < w10.heap.size := Nat.lt_of_lt_of_le hbz k10.size
     have bf : ∀ j, w10.frozen? ⟨bp, j, none⟩ = false := Lib.frozen_of_heap (k10.heap R3.block (fun h => h))
     rw [hn0] at c3 c3b c3c
     clear key fin R3 K3 hbx4 hm hrow own nb k8 k9 k10 HFin HI hx7 hm0 hm1 hi0 hz0 hzs hzb hr0
     go_upto_region 18 with (at_builtin; refine Lib.wpList_append_run _ rfl _ _ _ _ rfl _ _ rfl rfl _ _ (r1 _) ?_)
     go_upto_region 19 with (at_builtin; refine Lib.wpList_append_run _ rfl _ _ _ _ rfl _ _ rfl rfl _ _ (r2 _) ?_)
     go_wp2_with (at_builtin; refine Lib.wpList_append_run _ rfl _ _ _ _ rfl _ _ rfl rfl _ _ (r3 _) ?_)
     go_end0
     exact ⟨rfl, HE.out⟩
    ·simp only [Value.slice.injEq] at he
     obtain ⟨rfl, _, rfl⟩ := he
     have hat : ∀ w', Kept (fun _ => False) w7 w' → ∀ j u, (rrow s.row)[j]? = some u → w'.cell? ⟨g, j, none⟩ = some u := by
      intro w' k' j u hj
      refine k'.cell' ?_ (fun h => h)
      rw [Lib.cell_of_heap hg]
      have hjl := (List.getElem?_eq_some_iff.1 hj).1
      rw [rrow_length] at hjl
      rw [← htk, List.getElem?_take, if_pos hjl, Array.getElem?_toList] at hj
      exact hj
     have hsp : rrow s.row = rrow (s.row.take q) ++ rrow (s.row.drop q) := by rw [← rrow_append, List.take_append_drop]
     have hlt : (rrow (s.row.take q)).length = q * 4 := by rw [rrow_length, List.length_take, Nat.min_eq_left hql]
     obtain ⟨v1, w8, v2, w9, v3, w10, r1, r2, r3, k8, k9, k10, own, nb⟩ := key (.slice (some ⟨g, 0, none⟩) q cp) (.slice (if cp = q then some ⟨g, 0, none⟩ else some ⟨g, q * 4, none⟩) (s.row.length - q) (cp - q))
      (Src.ofSlice _ Tryz.underlying71 _ _ _ _ hlt (fun j u hj => by
       rw [Addr.add_lit, Nat.zero_add]
       refine hat _ (Kept.refl _ _) j u ?_
       rw [hsp, List.getElem?_append_left (List.getElem?_eq_some_iff.1 hj).1]
       exact hj) (rrow_oneCell _))
      (fun w' k' => by
       by_cases hcq : cp = q
       ·rw [if_pos hcq]
        have hd0 : s.row.drop q = [] := List.drop_eq_nil_of_le (by omega)
        rw [hd0]
        exact Src.ofSlice _ Tryz.underlying71 _ _ _ _ (by rw [show s.row.length - q = 0 by omega]; rfl) (fun j u hj => by simp [rrow] at hj) (rrow_oneCell _)
       ·rw [if_neg hcq]
        exact Src.ofSlice _ Tryz.underlying71 _ _ _ _ (by rw [rrow_length, List.length_drop]) (fun j u hj => by
         rw [Addr.add_lit]
         refine hat _ k' _ u ?_
         rw [hsp, List.getElem?_append_right (by omega), hlt, Nat.add_sub_cancel_left]
         exact hj) (rrow_oneCell _))
     obtain ⟨a3, cp3, rfl, _, _⟩ := own_slice own
     have HE : Hid (∃ rv' vs', RefAt (w10.setCell ⟨bp, 3, none⟩ (.slice a3 _ cp3)) (fun b => F b ∨ w.heap.size ≤ b) bp (s.apply o) rv' bo vs' hv ∧ Kept F w (w10.setCell ⟨bp, 3, none⟩ (.slice a3 _ cp3))) := fin _ w10 k10 own nb
     have c3b := k9.cell' c3 (fun h => h)
     have c3c := k10.cell' c3 (fun h => h)
     have x7 := k8.cell' hx7 (fun h => h)
     have m0 := k8.cell' hm0 (fun h => h)
     have m1 := k8.cell' hm1 (fun h => h)
     have z8 : bp < w10.heap.size := Nat.lt_of_lt_of_le hbz k10.size
     have bf : ∀ j, w10.frozen? ⟨bp, j, none⟩ = false := Lib.frozen_of_heap (k10.heap R3.block (fun h => h))
     have hqc : (q : Int) ≤ (cp : Int) := by omega
     have hnci : (s.row.length : Int) ≤ (cp : Int) := by omega
     have hqn : q ≤ cp := by omega
     clear key fin R3 K3 hbx4 hm hrow hg own nb k8 k9 k10 HFin HI hx7 hm0 hm1 hi0 hz0 hzs hzb hat hsp hlt htk hsz
     go_upto_region 18 with (at_builtin; refine Lib.wpList_append_run _ rfl _ _ _ _ rfl _ _ rfl rfl _ _ (r1 _) ?_)
     go_upto_region 19 with (at_builtin; refine Lib.wpList_append_run _ rfl _ _ _ _ rfl _ _ rfl rfl _ _ (r2 _) ?_)
     go_wp2_with (at_builtin; refine Lib.wpList_append_run _ rfl _ _ _ _ rfl _ _ rfl rfl _ _ (r3 _) ?_)
     all_goals go_end0
     all_goals refine ⟨rfl, ?_⟩
     all_goals obtain ⟨x, y, h1, h2⟩ := HE.out
     all_goals first | exact ⟨x, y, h1, h2⟩ | exact ⟨⟨x, y, h1⟩, h2⟩
set_option maxHeartbeats 1000000 in
set_option maxRecDepth 100000 in
theorem rinsert_place {w : World} {F : Nat → Prop} {bp : Nat} {s : RSt} {rv : Value} {bo : Nat} {vs : List Value} {hv : Value} (h : RefAt w F bp s rv bo vs hv) (hrl : s.row.length ≤ 4294967295) (at_ r : Int) (ha : at_ < 0 ∨ ((liveIdx s.row 0).length : Int) < at_) :
  Calls Tryz.prog 31 #[.pointer (some ⟨bp, 0, none⟩), .int .i64 at_, .int .i64 r] w fun e' w' => e' = .returned (.tuple #[.string ⟨#[]⟩, .int .i64 2]) ∧ Kept (fun _ => False) w w' := by
 have hlv := rlive_any h (by omega)
 clear h
 go_enter Tryz.func31, Tryz.ntmps31
 go_wp2_with fail
 refine hlv.mono ?_
 rintro e1 w1 ⟨lv, rfl, hl, k1, _⟩
 obtain ⟨la, lc, rfl, _⟩ := hl.cells
 have HK : Hid (Kept (fun _ => False) w w1) := k1
 clear hl k1 hlv
 obtain ⟨n, hn⟩ : ∃ n, (liveIdx s.row 0).length = n := ⟨_, rfl⟩
 rw [hn] at ha ⊢
 clear hn
 by_cases h1 : at_ < 0
 ·go_wp2_with fail
  go_ret2
  exact ⟨rfl, HK.out⟩
 ·have h2 : (n : Int) < at_ := by omega
  clear ha
  go_wp2_with fail
  go_ret2
  exact ⟨rfl, HK.out⟩
set_option maxHeartbeats 1000000 in
set_option maxRecDepth 100000 in
theorem rinsert_rune {w : World} {F : Nat → Prop} {bp : Nat} {s : RSt} {rv : Value} {bo : Nat} {vs : List Value} {hv : Value} (h : RefAt w F bp s rv bo vs hv) (hrl : s.row.length ≤ 4294967295) (at_ r : Int) (ha1 : 0 ≤ at_) (ha2 : at_ ≤ ((liveIdx s.row 0).length : Int)) (hr1 : -9223372036854775808 ≤ r) (hr2 : r ≤ 9223372036854775807) (hr : Lib.validRune r = false) :
  Calls Tryz.prog 31 #[.pointer (some ⟨bp, 0, none⟩), .int .i64 at_, .int .i64 r] w fun e' w' => e' = .returned (.tuple #[.string ⟨#[]⟩, .int .i64 3]) ∧ Kept (fun _ => False) w w' := by
 have hlv := rlive_any h (by omega)
 clear h
 go_enter Tryz.func31, Tryz.ntmps31
 go_wp2_with fail
 refine hlv.mono ?_
 rintro e1 w1 ⟨lv, rfl, hl, k1, _⟩
 obtain ⟨la, lc, rfl, _⟩ := hl.cells
 have HK : Hid (Kept (fun _ => False) w w1) := k1
 clear hl k1 hlv
 obtain ⟨n, hn⟩ : ∃ n, (liveIdx s.row 0).length = n := ⟨_, rfl⟩
 rw [hn] at ha2 ⊢
 clear hn
 have h1 : ¬ at_ < 0 := by omega
 have h2 : ¬ (n : Int) < at_ := by omega
 have hcr := rcharacter_any r w1 hr1 hr2
 rw [hr] at hcr
 clear ha1 ha2 hr hr1 hr2
 go_wp2_with fail
 refine hcr.mono ?_
 rintro e2 w2 ⟨rfl, rfl⟩
 clear hcr
 go_wp2_with fail
 go_ret2
 exact ⟨rfl, HK.out⟩
set_option maxHeartbeats 1000000 in
set_option maxRecDepth 100000 in
theorem rinsert_room {w : World} {F : Nat → Prop} {bp : Nat} {s : RSt} {rv : Value} {bo : Nat} {vs : List Value} {hv : Value} (h : RefAt w F bp s rv bo vs hv) (hrl : s.row.length ≤ 4294967295) (hm : s.me < s.ops.length) (h8 : s.ops.length ≤ 8) (at_ r : Int) (ha1 : 0 ≤ at_) (ha2 : at_ ≤ ((liveIdx s.row 0).length : Int)) (hr1 : -9223372036854775808 ≤ r) (hr2 : r ≤ 9223372036854775807) (hr : Lib.validRune r = true) (hrm : roomOf s ≠ 0) :
  Calls Tryz.prog 31 #[.pointer (some ⟨bp, 0, none⟩), .int .i64 at_, .int .i64 r] w fun e' w' => e' = .returned (.tuple #[.string ⟨#[]⟩, .int .i64 (roomOf s)]) ∧ Kept (fun _ => False) w w' := by
 have hlv := rlive_any h (by omega)
 have HR : Hid (RefAt w F bp s rv bo vs hv) := h
 obtain ⟨E, hE⟩ : ∃ E, roomOf s = E := ⟨_, rfl⟩
 rw [hE] at hrm ⊢
 have HE : Hid (roomOf s = E) := hE
 clear h hE
 go_enter Tryz.func31, Tryz.ntmps31
 go_wp2_with fail
 refine hlv.mono ?_
 rintro e1 w1 ⟨lv, rfl, hl, k1, _⟩
 obtain ⟨la, lc, rfl, _⟩ := hl.cells
 have hro := rroom_any (HR.out.kept k1 (fun _ _ h => h)) hm h8
 have HK : Hid (Kept (fun _ => False) w w1) := k1
 clear hl k1 hlv
 obtain ⟨n, hn⟩ : ∃ n, (liveIdx s.row 0).length = n := ⟨_, rfl⟩
 rw [hn] at ha2 ⊢
 clear hn
 have h1 : ¬ at_ < 0 := by omega
 have h2 : ¬ (n : Int) < at_ := by omega
 have hcr := rcharacter_any r w1 hr1 hr2
 rw [hr] at hcr
 rw [HE.out] at hro
 clear ha1 ha2 hr hr1 hr2
 go_wp2_with fail
 refine hcr.mono ?_
 rintro e2 w2 ⟨rfl, rfl⟩
 clear hcr
 go_wp2_with fail
 refine hro.mono ?_
 rintro e3 w3 ⟨rfl, k3⟩
 have HK2 : Hid (Kept (fun _ => False) w w3) := HK.out.trans' k3
 clear hro HK k3
 go_wp2_with fail
 go_ret2
 exact ⟨rfl, HK2.out⟩
set_option maxHeartbeats 1000000 in
set_option maxRecDepth 100000 in
theorem rdelete_place {w : World} {F : Nat → Prop} {bp : Nat} {s : RSt} {rv : Value} {bo : Nat} {vs : List Value} {hv : Value} (h : RefAt w F bp s rv bo vs hv) (hrl : s.row.length ≤ 4294967295) (at_ : Int) (ha : at_ < 0 ∨ ((liveIdx s.row 0).length : Int) ≤ at_) :
  Calls Tryz.prog 33 #[.pointer (some ⟨bp, 0, none⟩), .int .i64 at_] w fun e' w' => e' = .returned (.tuple #[.string ⟨#[]⟩, .int .i64 2]) ∧ Kept (fun _ => False) w w' := by
 have hlv := rlive_any h (by omega)
 clear h
 go_enter Tryz.func33, Tryz.ntmps33
 go_wp2_with fail
 refine hlv.mono ?_
 rintro e1 w1 ⟨lv, rfl, hl, k1, _⟩
 obtain ⟨la, lc, rfl, _⟩ := hl.cells
 have HK : Hid (Kept (fun _ => False) w w1) := k1
 clear hl k1 hlv
 obtain ⟨n, hn⟩ : ∃ n, (liveIdx s.row 0).length = n := ⟨_, rfl⟩
 rw [hn] at ha ⊢
 clear hn
 by_cases h1 : at_ < 0
 ·go_wp2_with fail
  go_ret2
  exact ⟨rfl, HK.out⟩
 ·have h2 : (n : Int) ≤ at_ := by omega
  clear ha
  go_wp2_with fail
  go_ret2
  exact ⟨rfl, HK.out⟩
set_option maxHeartbeats 1000000 in
set_option maxRecDepth 100000 in
theorem rdelete_room {w : World} {F : Nat → Prop} {bp : Nat} {s : RSt} {rv : Value} {bo : Nat} {vs : List Value} {hv : Value} (h : RefAt w F bp s rv bo vs hv) (hrl : s.row.length ≤ 4294967295) (hm : s.me < s.ops.length) (h8 : s.ops.length ≤ 8) (at_ : Int) (ha1 : 0 ≤ at_) (ha2 : at_ < ((liveIdx s.row 0).length : Int)) (hrm : roomOf s ≠ 0) :
  Calls Tryz.prog 33 #[.pointer (some ⟨bp, 0, none⟩), .int .i64 at_] w fun e' w' => e' = .returned (.tuple #[.string ⟨#[]⟩, .int .i64 (roomOf s)]) ∧ Kept (fun _ => False) w w' := by
 have hlv := rlive_any h (by omega)
 have HR : Hid (RefAt w F bp s rv bo vs hv) := h
 obtain ⟨E, hE⟩ : ∃ E, roomOf s = E := ⟨_, rfl⟩
 rw [hE] at hrm ⊢
 have HE : Hid (roomOf s = E) := hE
 clear h hE
 go_enter Tryz.func33, Tryz.ntmps33
 go_wp2_with fail
 refine hlv.mono ?_
 rintro e1 w1 ⟨lv, rfl, hl, k1, _⟩
 obtain ⟨la, lc, rfl, _⟩ := hl.cells
 have hro := rroom_any (HR.out.kept k1 (fun _ _ h => h)) hm h8
 have HK : Hid (Kept (fun _ => False) w w1) := k1
 clear hl k1 hlv
 obtain ⟨n, hn⟩ : ∃ n, (liveIdx s.row 0).length = n := ⟨_, rfl⟩
 rw [hn] at ha2 ⊢
 clear hn
 have h1 : ¬ at_ < 0 := by omega
 have h2 : ¬ (n : Int) ≤ at_ := by omega
 rw [HE.out] at hro
 clear ha1 ha2
 go_wp2_with fail
 refine hro.mono ?_
 rintro e3 w3 ⟨rfl, k3⟩
 have HK2 : Hid (Kept (fun _ => False) w w3) := HK.out.trans' k3
 clear hro HK k3
 go_wp2_with fail
 go_ret2
 exact ⟨rfl, HK2.out⟩
end Go.Proofs.YtgfafbanahiigaaGreat
