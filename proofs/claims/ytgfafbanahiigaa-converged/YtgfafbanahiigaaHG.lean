import Derived.Test.YtgfafbanahiigaaRH
import Derived.Test.YtgfafbanahiigaaV8
import Derived.Test.YtgfafbanahiigaaMG
import Derived.Test.YtgfafbanahiigaaH1
import Derived.Test.YtgfafbanahiigaaRU
import Derived.Test.YtgfafbanahiigaaV9
import Derived.Test.YtgfafbanahiigaaW8
/- A region that draws its order: readers, two new blocks, and a store into each; of no program. -/
set_option linter.unusedVariables false
set_option linter.unusedSimpArgs false
namespace Go.Chorus
/-- What a reader or a store may lean on. -/
structure UptoP (l : List Oper) (i1 i2 : Nat) (c : Nat → Value) (a0 : Act) (w0 : World) (o : Oper) (a : Act) (w : World) : Prop where
  kept : Kept (fun _ => False) w0 w
  dep : ∀ e ∈ o.after, Region.binds .any e = true → e.on ≠ i1 → e.on ≠ i2 → ∀ (oj : Oper) (d : Tmp), l[e.on]? = some oj → oj.dst = some d → a.tmps[d]? = some (c e.on)
  old : ∀ d : Tmp, (∀ oj ∈ l, oj.dst ≠ some d) → a.tmps[d]? = a0.tmps[d]?
/-- What the law asks of the region: no guards; the two stores have no slot, all others have one of their own; each waits for earlier ones; the stores wait for their blocks. -/
def pairRegion (l : List Oper) (size i1 i2 s1 s2 d1 d2 : Nat) : Bool :=
  (l.all fun o => o.guard.isNone && (match o.dst with | some d => decide (d < size) | none => true)) && decide ((l.filterMap fun o => o.dst).Nodup) &&
  ((List.range l.length).all fun i => ((l[i]?).map fun o => (o.after.all fun e => !Region.binds .any e || decide (e.on < i)) && (decide (i = s1) || decide (i = s2) || o.dst.isSome)).getD true) &&
  (((l[i1]?).map fun o => decide (o.dst = some d1)).getD false) && (((l[i2]?).map fun o => decide (o.dst = some d2)).getD false) &&
  (((l[s1]?).map fun o => decide (o.dst = none) && o.after.any fun e => Region.binds .any e && decide (e.on = i1)).getD false) &&
  (((l[s2]?).map fun o => decide (o.dst = none) && o.after.any fun e => Region.binds .any e && decide (e.on = i2)).getD false) &&
  decide (i1 ≠ i2) && decide (s1 ≠ s2) && decide (i1 ≠ s1) && decide (i1 ≠ s2) && decide (i2 ≠ s1) && decide (i2 ≠ s2)
structure PairInv (l : List Oper) (i1 i2 s1 s2 d1 d2 : Nat) (c : Nat → Value) (T : TypeId) (Z X Y : Array Value) (a0 : Act) (w0 : World) (b1 b2 : Nat) (listed : Array Bool) (a : Act) (w : World) : Prop where
  count : listed.size = l.length
  kept : Kept (fun _ => False) w0 w
  size : a.tmps.size = a0.tmps.size
  defers : a.defers = a0.defers
  done : ∀ (i : Nat) (o : Oper) (d : Tmp), l[i]? = some o → listed.getD i false = true → i ≠ i1 → i ≠ i2 → o.dst = some d → a.tmps[d]? = some (c i)
  one : listed.getD i1 false = true → a.tmps[d1]? = some (.pointer (some ⟨b1, 0, none⟩)) ∧ w0.heap.size ≤ b1 ∧ w.heap[b1]? = some (.cells (if listed.getD s1 false = true then X else Z) T (0, 0))
  two : listed.getD i2 false = true → a.tmps[d2]? = some (.pointer (some ⟨b2, 0, none⟩)) ∧ w0.heap.size ≤ b2 ∧ w.heap[b2]? = some (.cells (if listed.getD s2 false = true then Y else Z) T (0, 0))
  apart : listed.getD i1 false = true → listed.getD i2 false = true → b1 ≠ b2
  rest : ∀ d : Tmp, (∀ (i : Nat) (o : Oper), l[i]? = some o → listed.getD i false = true → o.dst ≠ some d) → a.tmps[d]? = a0.tmps[d]?
  closed : ∀ (i : Nat) (o : Oper), l[i]? = some o → listed.getD i false = true → ∀ e ∈ o.after, Region.binds .any e = true → listed.getD e.on false = true
theorem nodup_dst {l : List Oper} (h : (l.filterMap fun o => o.dst).Nodup) : ∀ (i j : Nat) (o u : Oper) (d : Tmp), l[i]? = some o → l[j]? = some u → i ≠ j → o.dst = some d → u.dst ≠ some d := by
  induction l with
  | nil => intro i j o u d hi; simp at hi
  | cons x r ih =>
    intro i j o u d hi hj hij hd
    have hr : (r.filterMap fun o => o.dst).Nodup := by
      rw [List.filterMap_cons] at h
      split at h
      · exact h
      · exact (List.nodup_cons.1 h).2
    have hmem : ∀ (k : Nat) (y : Oper), r[k]? = some y → y.dst = some d → d ∈ r.filterMap fun o => o.dst := fun k y hk hy => List.mem_filterMap.2 ⟨y, List.mem_of_getElem? hk, hy⟩
    have hx : x.dst = some d → d ∉ r.filterMap fun o => o.dst := fun hxd => by
      rw [List.filterMap_cons, hxd] at h
      exact (List.nodup_cons.1 h).1
    cases i with
    | zero =>
      cases j with
      | zero => exact absurd rfl hij
      | succ j =>
        simp at hi hj
        subst hi
        intro hu
        exact hx hd (hmem j u hj hu)
    | succ i =>
      cases j with
      | zero =>
        simp at hi hj
        subst hj
        intro hu
        exact hx hu (hmem i o hi hd)
      | succ j =>
        simp at hi hj
        exact ih hr i j o u d hi hj (by omega) hd
theorem all_of_readyB {l : List Oper} (hr : ∀ (i : Nat) (o : Oper), l[i]? = some o → ∀ e ∈ o.after, Region.binds .any e = true → e.on < i) (listed : Array Bool) (hs : listed.size = l.length) (h : Region.ready .any l.toArray listed = []) : ∀ i, i < l.length → listed.getD i false = true := by
  intro i
  induction i using Nat.strongRecOn with
  | _ i ih =>
    intro hi
    by_cases hl : listed.getD i false = true
    · exact hl
    · exfalso
      have hil : i < listed.size := by omega
      have hm : i ∈ Region.ready .any l.toArray listed := by
        refine mem_ready.2 ⟨?_, l[i], by simp [hi], fun e he hb => ?_⟩
        · simp only [Array.getD, hil, dif_pos] at hl ⊢; simpa using hl
        · have h2 := hr i l[i] (List.getElem?_eq_getElem hi) e he hb
          exact ih e.on h2 (by omega)
      rw [h] at hm; cases hm
theorem putAll_at (l : List Oper) (a : Act) (i : Nat) (vals : Nat → Value) (hne : ∀ (i j : Nat) (o u : Oper) (d : Tmp), l[i]? = some o → l[j]? = some u → i ≠ j → o.dst = some d → u.dst ≠ some d) (j : Nat) (o : Oper) (d : Tmp) (hj : l[j]? = some o) (hd : o.dst = some d) (hs : d < a.tmps.size) :
    (putAll a l i vals).tmps[d]? = some (vals (i + j)) := by
  induction l generalizing a i j with
  | nil => simp at hj
  | cons x r ih =>
    show (putAll (a.put x.dst (vals i)) r (i + 1) vals).tmps[d]? = _
    cases j with
    | zero =>
      simp at hj
      subst hj
      rw [putAll_rest r _ _ _ d (fun o' ho' => by
        obtain ⟨k, hk, rfl⟩ := List.getElem_of_mem ho'
        exact hne 0 (k + 1) x _ d rfl (by simp [hk]) (by omega) hd), hd, put_get, if_pos rfl, if_pos hs]
      rfl
    | succ j =>
      rw [ih (a.put x.dst (vals i)) (i + 1) (fun p q o u d hp hq hpq ho => hne (p + 1) (q + 1) o u d (by simpa using hp) (by simpa using hq) (by omega) ho) j (by simpa using hj) (by rw [put_size]; exact hs)]
      congr 2; omega
/-- The frame, all values put. -/
theorem frame_all {l : List Oper} {a a0 : Act} {vals : Nat → Value} (hne : ∀ (i j : Nat) (o u : Oper) (d : Tmp), l[i]? = some o → l[j]? = some u → i ≠ j → o.dst = some d → u.dst ≠ some d) (hs : a.tmps.size = a0.tmps.size) (hdf : a.defers = a0.defers)
    (hd : ∀ (i : Nat) (o : Oper) (d : Tmp), l[i]? = some o → o.dst = some d → a.tmps[d]? = some (vals i)) (hr : ∀ d : Tmp, (∀ oj ∈ l, oj.dst ≠ some d) → a.tmps[d]? = a0.tmps[d]?) : a = putAll a0 l 0 vals := by
  have h1 := putAll_size l a0 0 vals
  have ht : a.tmps = (putAll a0 l 0 vals).tmps := by
    apply Array.ext_getElem?
    intro d
    by_cases hx : ∃ (i : Nat) (o : Oper), l[i]? = some o ∧ o.dst = some d
    · obtain ⟨i, o, hi, hdd⟩ := hx
      have h2 := hd i o d hi hdd
      have hlt : d < a0.tmps.size := by rw [← hs]; exact (Array.getElem?_eq_some_iff.1 h2).1
      rw [putAll_at l a0 0 vals hne i o d hi hdd hlt, h2, Nat.zero_add]
    · have hno : ∀ o ∈ l, o.dst ≠ some d := fun o ho hdd => by
        obtain ⟨i, hi, rfl⟩ := List.getElem_of_mem ho
        exact hx ⟨i, _, List.getElem?_eq_getElem hi, hdd⟩
      rw [putAll_rest l a0 0 vals d hno, hr d hno]
  have hd2 : a.defers = (putAll a0 l 0 vals).defers := by rw [hdf, h1.2]
  cases a
  simp only at ht hd2
  rw [ht, hd2]
theorem wp_region_pair {P : Program} {Q : Exit → Act → World → Prop} {id : Nat} {a0 : Act} {w : World} {l : List Oper} (hm : P.follows .mixedOrders = true) (n i1 i2 s1 s2 d1 d2 : Nat) (hn : a0.tmps.size = n) (hB : pairRegion l n i1 i2 s1 s2 d1 d2 = true) (c : Nat → Value) (T : TypeId) (Z X Y : Array Value)
    (hread : ∀ (i : Nat) (o : Oper), l[i]? = some o → i ≠ i1 → i ≠ i2 → i ≠ s1 → i ≠ s2 → ∀ a w1, UptoP l i1 i2 c a0 w.drew o a w1 → o.wp P a w1 (fun a' w' => a' = a.put o.dst (c i) ∧ w' = w1) Q)
    (hal : ∀ (i : Nat) (o : Oper), l[i]? = some o → i = i1 ∨ i = i2 → ∀ a w1, o.wp P a w1 (fun a' w' => a' = a.put o.dst (.pointer (some ⟨w1.heap.size, 0, none⟩)) ∧ w' = w1.alloc (.cells Z T)) Q)
    (hst1 : ∀ o : Oper, l[s1]? = some o → ∀ a w1 b, UptoP l i1 i2 c a0 w.drew o a w1 → a.tmps[d1]? = some (.pointer (some ⟨b, 0, none⟩)) → w1.heap[b]? = some (.cells Z T (0, 0)) → o.wp P a w1 (fun a' w' => a' = a ∧ Kept (fun x => x = b) w1 w' ∧ w'.heap[b]? = some (.cells X T (0, 0))) Q)
    (hst2 : ∀ o : Oper, l[s2]? = some o → ∀ a w1 b, UptoP l i1 i2 c a0 w.drew o a w1 → a.tmps[d2]? = some (.pointer (some ⟨b, 0, none⟩)) → w1.heap[b]? = some (.cells Z T (0, 0)) → o.wp P a w1 (fun a' w' => a' = a ∧ Kept (fun x => x = b) w1 w' ∧ w'.heap[b]? = some (.cells Y T (0, 0))) Q)
    (hend : ∀ (w1 : World) (b1 b2 : Nat), Kept (fun _ => False) w.drew w1 → b1 ≠ b2 → w.heap.size ≤ b1 → w.heap.size ≤ b2 → w1.heap[b1]? = some (.cells X T (0, 0)) → w1.heap[b2]? = some (.cells Y T (0, 0)) →
      Q .normal (putAll a0 l 0 (fun k => if k = i1 then .pointer (some ⟨b1, 0, none⟩) else if k = i2 then .pointer (some ⟨b2, 0, none⟩) else c k)) w1) :
    (Code.region id l.toArray true).wp P Q a0 w := by
  simp only [pairRegion, Bool.and_eq_true, List.all_eq_true, decide_eq_true_eq] at hB
  obtain ⟨⟨⟨⟨⟨⟨⟨⟨⟨⟨⟨⟨hB1, hB2⟩, hB3⟩, hB4⟩, hB5⟩, hB6⟩, hB7⟩, n12⟩, ns⟩, n1s⟩, n1t⟩, n2s⟩, n2t⟩ := hB
  have hget : ∀ (i : Nat), l.toArray[i]? = l[i]? := fun i => by simp
  have hguard : ∀ (i : Nat) (o : Oper), l[i]? = some o → o.guard = none := fun i o ho => by
    have h1 := hB1 o (List.mem_of_getElem? ho)
    simpa using h1.1
  have hdlt : ∀ (i : Nat) (o : Oper) (d : Tmp), l[i]? = some o → o.dst = some d → d < a0.tmps.size := fun i o d ho hd => by
    have h1 := (hB1 o (List.mem_of_getElem? ho)).2
    rw [hd] at h1
    rw [hn]; simpa using h1
  have hedge : ∀ (i : Nat) (o : Oper), l[i]? = some o → (∀ e ∈ o.after, Region.binds .any e = true → e.on < i) ∧ (i ≠ s1 → i ≠ s2 → ∃ d, o.dst = some d) := fun i o ho => by
    have hi := (List.getElem?_eq_some_iff.1 ho).1
    have h1 := hB3 i (List.mem_range.2 hi)
    rw [ho] at h1
    simp only [Option.map_some, Option.getD_some, Bool.and_eq_true, Array.all_eq_true'] at h1
    refine ⟨fun e he hb => ?_, fun h2 h3 => ?_⟩
    · have := h1.1 e he
      rw [hb] at this
      simpa using this
    · have := h1.2
      simp only [h2, h3, decide_false, Bool.false_or] at this
      exact Option.isSome_iff_exists.1 this
  obtain ⟨o1, ho1, hd1⟩ : ∃ o, l[i1]? = some o ∧ o.dst = some d1 := by
    cases h : l[i1]? with
    | none => rw [h] at hB4; simp at hB4
    | some o => rw [h] at hB4; exact ⟨o, rfl, by simpa using hB4⟩
  obtain ⟨o2, ho2, hd2⟩ : ∃ o, l[i2]? = some o ∧ o.dst = some d2 := by
    cases h : l[i2]? with
    | none => rw [h] at hB5; simp at hB5
    | some o => rw [h] at hB5; exact ⟨o, rfl, by simpa using hB5⟩
  obtain ⟨p1, hp1, hq1, f1, hf1, hfb1, hfo1⟩ : ∃ o, l[s1]? = some o ∧ o.dst = none ∧ ∃ e ∈ o.after, Region.binds .any e = true ∧ e.on = i1 := by
    cases h : l[s1]? with
    | none => rw [h] at hB6; simp at hB6
    | some o =>
      rw [h] at hB6
      simp only [Option.map_some, Option.getD_some, Bool.and_eq_true, decide_eq_true_eq, Array.any_eq_true'] at hB6
      obtain ⟨h1, e, he, h2, h3⟩ := hB6
      exact ⟨o, rfl, h1, e, he, h2, h3⟩
  obtain ⟨p2, hp2, hq2, f2, hf2, hfb2, hfo2⟩ : ∃ o, l[s2]? = some o ∧ o.dst = none ∧ ∃ e ∈ o.after, Region.binds .any e = true ∧ e.on = i2 := by
    cases h : l[s2]? with
    | none => rw [h] at hB7; simp at hB7
    | some o =>
      rw [h] at hB7
      simp only [Option.map_some, Option.getD_some, Bool.and_eq_true, decide_eq_true_eq, Array.any_eq_true'] at hB7
      obtain ⟨h1, e, he, h2, h3⟩ := hB7
      exact ⟨o, rfl, h1, e, he, h2, h3⟩
  have hne := nodup_dst hB2
  refine wp_region_inv hm (fun listed a w1 => ∃ b1 b2, PairInv l i1 i2 s1 s2 d1 d2 c T Z X Y a0 w.drew b1 b2 listed a w1) ?_ ?_ ?_
  · rintro listed a w1 ⟨b1, b2, inv⟩ hr
    have hl := all_of_readyB (fun i o ho => (hedge i o ho).1) listed inv.count hr
    have hlt : ∀ (i : Nat) (o : Oper), l[i]? = some o → listed.getD i false = true := fun i o ho => hl i (List.getElem?_eq_some_iff.1 ho).1
    obtain ⟨x1, x2, x3⟩ := inv.one (hlt i1 o1 ho1)
    obtain ⟨y1, y2, y3⟩ := inv.two (hlt i2 o2 ho2)
    rw [if_pos (hlt s1 p1 hp1)] at x3
    rw [if_pos (hlt s2 p2 hp2)] at y3
    have hfr := frame_all (a := a) (a0 := a0) (vals := fun k => if k = i1 then .pointer (some ⟨b1, 0, none⟩) else if k = i2 then .pointer (some ⟨b2, 0, none⟩) else c k) hne inv.size inv.defers (fun i o d hi hd => ?_) (fun d hd => inv.rest d (fun i o hi _ => hd o (List.mem_of_getElem? hi)))
    · rw [hfr]
      exact hend w1 b1 b2 inv.kept (inv.apart (hlt i1 o1 ho1) (hlt i2 o2 ho2)) x2 y2 x3 y3
    · by_cases h1 : i = i1
      · subst h1
        rw [ho1] at hi
        cases hi
        rw [hd1] at hd
        cases hd
        simp only [if_true]
        exact x1
      · by_cases h2 : i = i2
        · subst h2
          rw [ho2] at hi
          cases hi
          rw [hd2] at hd
          cases hd
          simp only [if_neg h1, if_true]
          exact y1
        · simp only [if_neg h1, if_neg h2]
          exact inv.done i o d hi (hlt i o hi) h1 h2 hd
  · rintro listed a w1 i ⟨b1, b2, inv⟩ hi
    obtain ⟨hun, o, ho, hdeps⟩ := mem_ready.1 hi
    rw [hget] at ho
    have hil : i < listed.size := by rw [inv.count]; exact (List.getElem?_eq_some_iff.1 ho).1
    have hunf : listed.getD i false = false := by
      simp only [Array.getD, hil, dif_pos] at hun ⊢; exact hun
    have hset : ∀ j, (listed.setIfInBounds i true).getD j false = if i = j then true else listed.getD j false := fun j => getD_set listed i j hil
    have hup : UptoP l i1 i2 c a0 w.drew o a w1 := ⟨inv.kept, fun e he hb h1 h2 oj d hj hd => inv.done e.on oj d hj (hdeps e he hb) h1 h2 hd, fun d hd => inv.rest d (fun j oj hj _ => hd oj (List.mem_of_getElem? hj))⟩
    have hclosed : ∀ (j : Nat) (oj : Oper), l[j]? = some oj → (listed.setIfInBounds i true).getD j false = true → ∀ e ∈ oj.after, Region.binds .any e = true → (listed.setIfInBounds i true).getD e.on false = true := by
      intro j oj hj hlj e he hb
      rw [hset] at hlj ⊢
      by_cases hij : i = j
      · subst hij
        rw [ho] at hj
        cases hj
        have := hdeps e he hb
        split
        · rfl
        · exact this
      · rw [if_neg hij] at hlj
        have := inv.closed j oj hj hlj e he hb
        split
        · rfl
        · exact this
    unfold wpOp
    rw [hget, ho]
    simp only []
    have hw : Region.wanted o (yielded l.toArray a.tmps) = true := by simp [Region.wanted, hguard i o ho]
    rw [if_pos hw]
    left
    -- the slots of the others stay
    have hslot : ∀ (d : Tmp) (v : Value), o.dst = some d → ∀ (j : Nat) (oj : Oper) (dj : Tmp), l[j]? = some oj → oj.dst = some dj → j ≠ i → (a.put o.dst v).tmps[dj]? = a.tmps[dj]? := fun d v hd j oj dj hj hdj hji => by
      rw [hd, put_get, if_neg (fun e => hne i j o oj d ho hj (fun h => hji h.symm) hd (by rw [hdj, e]))]
    have hrestP : ∀ (d : Tmp) (v : Value), o.dst = some d → ∀ d' : Tmp, (∀ (j : Nat) (oj : Oper), l[j]? = some oj → (listed.setIfInBounds i true).getD j false = true → oj.dst ≠ some d') → (a.put o.dst v).tmps[d']? = a0.tmps[d']? := fun d v hd d' hd' => by
      have hdd : d ≠ d' := fun e => hd' i o ho (by rw [hset, if_pos rfl]) (by rw [hd, e])
      rw [hd, put_get, if_neg hdd]
      refine inv.rest d' (fun j oj hj hlj => hd' j oj hj ?_)
      rw [hset]
      split
      · rfl
      · exact hlj
    by_cases c1 : i = i1
    · subst c1
      rw [ho1] at ho
      cases ho
      refine Oper.wp_mono ?_ (hal i o1 ho1 (Or.inl rfl) a w1)
      rintro a' w' ⟨rfl, rfl⟩
      have hK : Kept (fun _ => False) w1 (w1.alloc (.cells Z T)) := (Kept.refl _ w1).alloc _
      have hs1 : listed.getD s1 false = false := by
        cases h : listed.getD s1 false with
        | false => rfl
        | true =>
          have := inv.closed s1 p1 hp1 h f1 hf1 hfb1
          rw [hfo1, hunf] at this; cases this
      refine ⟨w1.heap.size, b2, by simp [inv.count], inv.kept.trans' hK, by rw [put_size]; exact inv.size, by rw [put_defers]; exact inv.defers, ?_, ?_, ?_, ?_, hrestP d1 _ hd1, hclosed⟩
      · intro j oj dj hj hlj h1 h2 hdj
        rw [hset, if_neg (fun e => h1 e.symm)] at hlj
        rw [hslot d1 _ hd1 j oj dj hj hdj h1]
        exact inv.done j oj dj hj hlj h1 h2 hdj
      · intro _
        refine ⟨by rw [hd1, put_get, if_pos rfl, if_pos (by rw [inv.size]; exact hdlt i o1 d1 ho1 hd1)], inv.kept.size, ?_⟩
        rw [hset, if_neg n1s, hs1]
        exact heap_alloc_new w1 _
      · intro hl2
        rw [hset, if_neg n12] at hl2
        obtain ⟨y1, y2, y3⟩ := inv.two hl2
        refine ⟨by rw [hslot d1 _ hd1 i2 o2 d2 ho2 hd2 (fun e => n12 e.symm)]; exact y1, y2, ?_⟩
        rw [hset, if_neg n1t]
        exact hK.heap y3 (fun h => h)
      · intro _ hl2
        rw [hset, if_neg n12] at hl2
        have := lt_of_heap (inv.two hl2).2.2
        omega
    · by_cases c2 : i = i2
      · subst c2
        rw [ho2] at ho
        cases ho
        refine Oper.wp_mono ?_ (hal i o2 ho2 (Or.inr rfl) a w1)
        rintro a' w' ⟨rfl, rfl⟩
        have hK : Kept (fun _ => False) w1 (w1.alloc (.cells Z T)) := (Kept.refl _ w1).alloc _
        have hs2 : listed.getD s2 false = false := by
          cases h : listed.getD s2 false with
          | false => rfl
          | true =>
            have := inv.closed s2 p2 hp2 h f2 hf2 hfb2
            rw [hfo2, hunf] at this; cases this
        refine ⟨b1, w1.heap.size, by simp [inv.count], inv.kept.trans' hK, by rw [put_size]; exact inv.size, by rw [put_defers]; exact inv.defers, ?_, ?_, ?_, ?_, hrestP d2 _ hd2, hclosed⟩
        · intro j oj dj hj hlj h1 h2 hdj
          rw [hset, if_neg (fun e => h2 e.symm)] at hlj
          rw [hslot d2 _ hd2 j oj dj hj hdj h2]
          exact inv.done j oj dj hj hlj h1 h2 hdj
        · intro hl1
          rw [hset, if_neg (fun e => n12 e.symm)] at hl1
          obtain ⟨y1, y2, y3⟩ := inv.one hl1
          refine ⟨by rw [hslot d2 _ hd2 i1 o1 d1 ho1 hd1 n12]; exact y1, y2, ?_⟩
          rw [hset, if_neg n2s]
          exact hK.heap y3 (fun h => h)
        · intro _
          refine ⟨by rw [hd2, put_get, if_pos rfl, if_pos (by rw [inv.size]; exact hdlt i o2 d2 ho2 hd2)], inv.kept.size, ?_⟩
          rw [hset, if_neg n2t, hs2]
          exact heap_alloc_new w1 _
        · intro hl1 _
          rw [hset, if_neg (fun e => n12 e.symm)] at hl1
          have := lt_of_heap (inv.one hl1).2.2
          omega
      · by_cases c3 : i = s1
        · subst c3
          rw [hp1] at ho
          cases ho
          have hl1 : listed.getD i1 false = true := by
            have := hdeps f1 hf1 hfb1
            rw [hfo1] at this; exact this
          obtain ⟨x1, x2, x3⟩ := inv.one hl1
          rw [hunf] at x3
          refine Oper.wp_mono ?_ (hst1 p1 hp1 a w1 b1 hup x1 x3)
          rintro a' w' ⟨rfl, hk, hx⟩
          refine ⟨b1, b2, by simp [inv.count], inv.kept.trans hk (fun j hj e => ?_), inv.size, inv.defers, ?_, ?_, ?_, ?_, ?_, hclosed⟩
          · have : j < w.drew.heap.size := hj
            omega
          · intro j oj dj hj hlj h1 h2 hdj
            refine inv.done j oj dj hj ?_ h1 h2 hdj
            rw [hset] at hlj
            by_cases hij : i = j
            · subst hij
              rw [hp1] at hj
              cases hj
              rw [hq1] at hdj; cases hdj
            · rw [if_neg hij] at hlj; exact hlj
          · intro _
            refine ⟨x1, x2, ?_⟩
            rw [hset, if_pos rfl, if_pos rfl]
            exact hx
          · intro hl2
            rw [hset, if_neg (fun e => n2s e.symm)] at hl2
            obtain ⟨y1, y2, y3⟩ := inv.two hl2
            refine ⟨y1, y2, ?_⟩
            rw [hset, if_neg ns]
            exact hk.heap y3 (fun e => inv.apart hl1 hl2 e.symm)
          · intro _ hl2
            rw [hset, if_neg (fun e => n2s e.symm)] at hl2
            exact inv.apart hl1 hl2
          · intro d' hd'
            refine inv.rest d' (fun j oj hj hlj => hd' j oj hj ?_)
            rw [hset]
            split
            · rfl
            · exact hlj
        · by_cases c4 : i = s2
          · subst c4
            rw [hp2] at ho
            cases ho
            have hl2 : listed.getD i2 false = true := by
              have := hdeps f2 hf2 hfb2
              rw [hfo2] at this; exact this
            obtain ⟨y1, y2, y3⟩ := inv.two hl2
            rw [hunf] at y3
            refine Oper.wp_mono ?_ (hst2 p2 hp2 a w1 b2 hup y1 y3)
            rintro a' w' ⟨rfl, hk, hx⟩
            refine ⟨b1, b2, by simp [inv.count], inv.kept.trans hk (fun j hj e => ?_), inv.size, inv.defers, ?_, ?_, ?_, ?_, ?_, hclosed⟩
            · have : j < w.drew.heap.size := hj
              omega
            · intro j oj dj hj hlj h1 h2 hdj
              refine inv.done j oj dj hj ?_ h1 h2 hdj
              rw [hset] at hlj
              by_cases hij : i = j
              · subst hij
                rw [hp2] at hj
                cases hj
                rw [hq2] at hdj; cases hdj
              · rw [if_neg hij] at hlj; exact hlj
            · intro hl1
              rw [hset, if_neg (fun e => n1t e.symm)] at hl1
              obtain ⟨x1, x2, x3⟩ := inv.one hl1
              refine ⟨x1, x2, ?_⟩
              rw [hset, if_neg c3]
              exact hk.heap x3 (fun e => inv.apart hl1 hl2 e)
            · intro _
              refine ⟨y1, y2, ?_⟩
              rw [hset, if_pos rfl, if_pos rfl]
              exact hx
            · intro hl1 _
              rw [hset, if_neg (fun e => n1t e.symm)] at hl1
              exact inv.apart hl1 hl2
            · intro d' hd'
              refine inv.rest d' (fun j oj hj hlj => hd' j oj hj ?_)
              rw [hset]
              split
              · rfl
              · exact hlj
          · obtain ⟨d, hd⟩ := (hedge i o ho).2 c3 c4
            refine Oper.wp_mono ?_ (hread i o ho c1 c2 c3 c4 a w1 hup)
            rintro a' w' ⟨rfl, rfl⟩
            refine ⟨b1, b2, by simp [inv.count], inv.kept, by rw [put_size]; exact inv.size, by rw [put_defers]; exact inv.defers, ?_, ?_, ?_, ?_, hrestP d _ hd, hclosed⟩
            · intro j oj dj hj hlj h1 h2 hdj
              rw [hset] at hlj
              by_cases hij : i = j
              · subst hij
                rw [ho] at hj
                cases hj
                rw [hd] at hdj
                cases hdj
                rw [hd, put_get, if_pos rfl, if_pos (by rw [inv.size]; exact hdlt i o d ho hd)]
              · rw [if_neg hij] at hlj
                rw [hslot d _ hd j oj dj hj hdj (fun e => hij e.symm)]
                exact inv.done j oj dj hj hlj h1 h2 hdj
            · intro hl1
              rw [hset, if_neg c1] at hl1
              obtain ⟨x1, x2, x3⟩ := inv.one hl1
              refine ⟨by rw [hslot d _ hd i1 o1 d1 ho1 hd1 (fun e => c1 e.symm)]; exact x1, x2, ?_⟩
              rw [hset, if_neg c3]
              exact x3
            · intro hl2
              rw [hset, if_neg c2] at hl2
              obtain ⟨y1, y2, y3⟩ := inv.two hl2
              refine ⟨by rw [hslot d _ hd i2 o2 d2 ho2 hd2 (fun e => c2 e.symm)]; exact y1, y2, ?_⟩
              rw [hset, if_neg c4]
              exact y3
            · intro hl1 hl2
              rw [hset, if_neg c1] at hl1
              rw [hset, if_neg c2] at hl2
              exact inv.apart hl1 hl2
  · have hz : ∀ i, (Array.replicate l.toArray.size false).getD i false = false := fun i => by
      simp only [Array.getD_eq_getD_getElem?, Array.getElem?_replicate]
      split <;> rfl
    refine ⟨0, 0, by simp, Kept.refl _ _, rfl, rfl, fun i o d _ hl => ?_, fun hl => ?_, fun hl => ?_, fun hl => ?_, fun d _ => rfl, fun i o _ hl => ?_⟩
    all_goals (rw [hz] at hl; cases hl)
end Go.Chorus
/- A region that draws its order: readers, and two stores, the one behind the other; of no program. -/
namespace Go.Chorus
structure UptoS (l : List Oper) (c : Nat → Value) (a0 : Act) (o : Oper) (a : Act) : Prop where
  dep : ∀ e ∈ o.after, Region.binds .any e = true → ∀ (oj : Oper) (d : Tmp), l[e.on]? = some oj → oj.dst = some d → a.tmps[d]? = some (c e.on)
  old : ∀ d : Tmp, (∀ oj ∈ l, oj.dst ≠ some d) → a.tmps[d]? = a0.tmps[d]?
/-- Does s wait for i? -/
def waitsOn (l : List Oper) (s i : Nat) : Bool := ((l[s]?).map fun o => o.after.any fun e => Region.binds .any e && decide (e.on = i)).getD false
def storesRegion (l : List Oper) (size s1 s2 : Nat) : Bool :=
  (l.all fun o => o.guard.isNone && (match o.dst with | some d => decide (d < size) | none => true)) && decide ((l.filterMap fun o => o.dst).Nodup) &&
  ((List.range l.length).all fun i => ((l[i]?).map fun o => (o.after.all fun e => !Region.binds .any e || decide (e.on < i)) && (decide (i = s1) || decide (i = s2) || o.dst.isSome)).getD true) &&
  (((l[s1]?).map fun o => decide (o.dst = none)).getD false) && (((l[s2]?).map fun o => decide (o.dst = none)).getD false) && waitsOn l s2 s1 && decide (s1 ≠ s2)
structure StoresInv (l : List Oper) (s1 s2 : Nat) (c : Nat → Value) (a0 : Act) (w0 w2 w3 : World) (listed : Array Bool) (a : Act) (w : World) : Prop where
  count : listed.size = l.length
  world : w = if listed.getD s2 false = true then w3 else if listed.getD s1 false = true then w2 else w0
  size : a.tmps.size = a0.tmps.size
  defers : a.defers = a0.defers
  done : ∀ (i : Nat) (o : Oper) (d : Tmp), l[i]? = some o → listed.getD i false = true → o.dst = some d → a.tmps[d]? = some (c i)
  rest : ∀ d : Tmp, (∀ (i : Nat) (o : Oper), l[i]? = some o → listed.getD i false = true → o.dst ≠ some d) → a.tmps[d]? = a0.tmps[d]?
  closed : ∀ (i : Nat) (o : Oper), l[i]? = some o → listed.getD i false = true → ∀ e ∈ o.after, Region.binds .any e = true → listed.getD e.on false = true
theorem wp_region_stores {P : Program} {Q : Exit → Act → World → Prop} {id : Nat} {a0 : Act} {w : World} {l : List Oper} (hm : P.follows .mixedOrders = true) (n s1 s2 : Nat) (hn : a0.tmps.size = n) (hB : storesRegion l n s1 s2 = true) (c : Nat → Value) (w2 w3 : World)
    (hread : ∀ (i : Nat) (o : Oper), l[i]? = some o → i ≠ s1 → i ≠ s2 → ∀ a, UptoS l c a0 o a → ∀ W, (W = w.drew ∨ (W = w2 ∧ waitsOn l s1 i = false) ∨ (W = w3 ∧ waitsOn l s2 i = false)) → o.wp P a W (fun a' w' => a' = a.put o.dst (c i) ∧ w' = W) Q)
    (hs1 : ∀ o : Oper, l[s1]? = some o → ∀ a, UptoS l c a0 o a → o.wp P a w.drew (fun a' w' => a' = a ∧ w' = w2) Q)
    (hs2 : ∀ o : Oper, l[s2]? = some o → ∀ a, UptoS l c a0 o a → o.wp P a w2 (fun a' w' => a' = a ∧ w' = w3) Q)
    (hend : Q .normal (putAll a0 l 0 c) w3) :
    (Code.region id l.toArray true).wp P Q a0 w := by
  simp only [storesRegion, Bool.and_eq_true, List.all_eq_true, decide_eq_true_eq] at hB
  obtain ⟨⟨⟨⟨⟨⟨hB1, hB2⟩, hB3⟩, hB4⟩, hB5⟩, hB6⟩, ns⟩ := hB
  have hget : ∀ (i : Nat), l.toArray[i]? = l[i]? := fun i => by simp
  have hguard : ∀ (i : Nat) (o : Oper), l[i]? = some o → o.guard = none := fun i o ho => by
    have h1 := hB1 o (List.mem_of_getElem? ho)
    simpa using h1.1
  have hdlt : ∀ (i : Nat) (o : Oper) (d : Tmp), l[i]? = some o → o.dst = some d → d < a0.tmps.size := fun i o d ho hd => by
    have h1 := (hB1 o (List.mem_of_getElem? ho)).2
    rw [hd] at h1
    rw [hn]; simpa using h1
  have hedge : ∀ (i : Nat) (o : Oper), l[i]? = some o → (∀ e ∈ o.after, Region.binds .any e = true → e.on < i) ∧ (i ≠ s1 → i ≠ s2 → ∃ d, o.dst = some d) := fun i o ho => by
    have hi := (List.getElem?_eq_some_iff.1 ho).1
    have h1 := hB3 i (List.mem_range.2 hi)
    rw [ho] at h1
    simp only [Option.map_some, Option.getD_some, Bool.and_eq_true, Array.all_eq_true'] at h1
    refine ⟨fun e he hb => ?_, fun h2 h3 => ?_⟩
    · have := h1.1 e he
      rw [hb] at this
      simpa using this
    · have := h1.2
      simp only [h2, h3, decide_false, Bool.false_or] at this
      exact Option.isSome_iff_exists.1 this
  have hwait : ∀ s i, waitsOn l s i = true → ∃ o, l[s]? = some o ∧ ∃ e ∈ o.after, Region.binds .any e = true ∧ e.on = i := fun s i h => by
    unfold waitsOn at h
    cases hs : l[s]? with
    | none => rw [hs] at h; simp at h
    | some o =>
      rw [hs] at h
      simp only [Option.map_some, Option.getD_some, Array.any_eq_true', Bool.and_eq_true, decide_eq_true_eq] at h
      exact ⟨o, rfl, h⟩
  obtain ⟨p1, hp1, hq1⟩ : ∃ o, l[s1]? = some o ∧ o.dst = none := by
    cases h : l[s1]? with
    | none => rw [h] at hB4; simp at hB4
    | some o => rw [h] at hB4; exact ⟨o, rfl, by simpa using hB4⟩
  obtain ⟨p2, hp2, hq2⟩ : ∃ o, l[s2]? = some o ∧ o.dst = none := by
    cases h : l[s2]? with
    | none => rw [h] at hB5; simp at hB5
    | some o => rw [h] at hB5; exact ⟨o, rfl, by simpa using hB5⟩
  have hne := nodup_dst hB2
  refine wp_region_inv hm (fun listed a w1 => StoresInv l s1 s2 c a0 w.drew w2 w3 listed a w1) ?_ ?_ ?_
  · rintro listed a w1 inv hr
    have hl := all_of_readyB (fun i o ho => (hedge i o ho).1) listed inv.count hr
    have hlt : ∀ (i : Nat) (o : Oper), l[i]? = some o → listed.getD i false = true := fun i o ho => hl i (List.getElem?_eq_some_iff.1 ho).1
    have hfr := frame_all (a := a) (a0 := a0) (vals := c) hne inv.size inv.defers (fun i o d hi hd => inv.done i o d hi (hlt i o hi) hd) (fun d hd => inv.rest d (fun i o hi _ => hd o (List.mem_of_getElem? hi)))
    rw [hfr, inv.world, if_pos (hlt s2 p2 hp2)]
    exact hend
  · rintro listed a w1 i inv hi
    obtain ⟨hun, o, ho, hdeps⟩ := mem_ready.1 hi
    rw [hget] at ho
    have hil : i < listed.size := by rw [inv.count]; exact (List.getElem?_eq_some_iff.1 ho).1
    have hunf : listed.getD i false = false := by
      simp only [Array.getD, hil, dif_pos] at hun ⊢; exact hun
    have hset : ∀ j, (listed.setIfInBounds i true).getD j false = if i = j then true else listed.getD j false := fun j => getD_set listed i j hil
    have hup : UptoS l c a0 o a := ⟨fun e he hb oj d hj hd => inv.done e.on oj d hj (hdeps e he hb) hd, fun d hd => inv.rest d (fun j oj hj _ => hd oj (List.mem_of_getElem? hj))⟩
    have hclosed : ∀ (j : Nat) (oj : Oper), l[j]? = some oj → (listed.setIfInBounds i true).getD j false = true → ∀ e ∈ oj.after, Region.binds .any e = true → (listed.setIfInBounds i true).getD e.on false = true := by
      intro j oj hj hlj e he hb
      rw [hset] at hlj ⊢
      by_cases hij : i = j
      · subst hij
        rw [ho] at hj
        cases hj
        have := hdeps e he hb
        split
        · rfl
        · exact this
      · rw [if_neg hij] at hlj
        have := inv.closed j oj hj hlj e he hb
        split
        · rfl
        · exact this
    -- what waits for an unlisted one is unlisted
    have hnot : ∀ s, waitsOn l s i = true → listed.getD s false = false := fun s hs => by
      obtain ⟨os, hos, e, he, hb, hon⟩ := hwait s i hs
      cases h : listed.getD s false with
      | false => rfl
      | true =>
        have := inv.closed s os hos h e he hb
        rw [hon, hunf] at this; cases this
    have hdoneS : o.dst = none → (∀ (j : Nat) (oj : Oper) (d : Tmp), l[j]? = some oj → (listed.setIfInBounds i true).getD j false = true → oj.dst = some d → a.tmps[d]? = some (c j)) ∧ (∀ d : Tmp, (∀ (j : Nat) (oj : Oper), l[j]? = some oj → (listed.setIfInBounds i true).getD j false = true → oj.dst ≠ some d) → a.tmps[d]? = a0.tmps[d]?) := fun hq => by
      refine ⟨fun j oj d hj hlj hd => ?_, fun d hd => inv.rest d (fun j oj hj hlj => hd j oj hj ?_)⟩
      · rw [hset] at hlj
        by_cases hij : i = j
        · subst hij
          rw [ho] at hj
          cases hj
          rw [hq] at hd; cases hd
        · rw [if_neg hij] at hlj
          exact inv.done j oj d hj hlj hd
      · rw [hset]
        split
        · rfl
        · exact hlj
    unfold wpOp
    rw [hget, ho]
    simp only []
    have hw : Region.wanted o (yielded l.toArray a.tmps) = true := by simp [Region.wanted, hguard i o ho]
    rw [if_pos hw]
    left
    by_cases c1 : i = s1
    · subst c1
      rw [hp1] at ho
      cases ho
      have h2 := hnot s2 hB6
      have hw1 : w1 = w.drew := by
        have := inv.world
        rw [h2, hunf] at this
        exact this
      subst hw1
      refine Oper.wp_mono ?_ (hs1 p1 hp1 a hup)
      rintro a' w' ⟨rfl, rfl⟩
      obtain ⟨d1, d2⟩ := hdoneS hq1
      refine ⟨by simp [inv.count], ?_, inv.size, inv.defers, d1, d2, hclosed⟩
      rw [hset s2, if_neg ns, h2, hset i, if_pos rfl]
      rfl
    · by_cases c2 : i = s2
      · subst c2
        rw [hp2] at ho
        cases ho
        have h1 : listed.getD s1 false = true := by
          obtain ⟨os, hos, e, he, hb, hon⟩ := hwait i s1 hB6
          rw [hp2] at hos
          cases hos
          have := hdeps e he hb
          rw [hon] at this; exact this
        have hw1 : w1 = w2 := by
          have := inv.world
          rw [hunf, h1] at this
          exact this
        subst hw1
        refine Oper.wp_mono ?_ (hs2 p2 hp2 a hup)
        rintro a' w' ⟨rfl, rfl⟩
        obtain ⟨d1, d2⟩ := hdoneS hq2
        refine ⟨by simp [inv.count], ?_, inv.size, inv.defers, d1, d2, hclosed⟩
        rw [hset i, if_pos rfl, if_pos rfl]
      · obtain ⟨d, hd⟩ := (hedge i o ho).2 c1 c2
        have hW : w1 = w.drew ∨ (w1 = w2 ∧ waitsOn l s1 i = false) ∨ (w1 = w3 ∧ waitsOn l s2 i = false) := by
          have hwd := inv.world
          by_cases h2 : listed.getD s2 false = true
          · rw [if_pos h2] at hwd
            refine Or.inr (Or.inr ⟨hwd, ?_⟩)
            cases h : waitsOn l s2 i with
            | false => rfl
            | true => have := hnot s2 h; rw [h2] at this; cases this
          · rw [if_neg h2] at hwd
            by_cases h1 : listed.getD s1 false = true
            · rw [if_pos h1] at hwd
              refine Or.inr (Or.inl ⟨hwd, ?_⟩)
              cases h : waitsOn l s1 i with
              | false => rfl
              | true => have := hnot s1 h; rw [h1] at this; cases this
            · rw [if_neg h1] at hwd
              exact Or.inl hwd
        refine Oper.wp_mono ?_ (hread i o ho c1 c2 a hup w1 hW)
        rintro a' w' ⟨rfl, rfl⟩
        refine ⟨by simp [inv.count], ?_, by rw [put_size]; exact inv.size, by rw [put_defers]; exact inv.defers, ?_, ?_, hclosed⟩
        · rw [hset s2, if_neg c2, hset s1, if_neg c1]
          exact inv.world
        · intro j oj dj hj hlj hdj
          rw [hset] at hlj
          by_cases hij : i = j
          · subst hij
            rw [ho] at hj
            cases hj
            rw [hd] at hdj
            cases hdj
            rw [hd, put_get, if_pos rfl, if_pos (by rw [inv.size]; exact hdlt i o d ho hd)]
          · rw [if_neg hij] at hlj
            rw [hd, put_get, if_neg (fun e => hne i j o oj d ho hj hij hd (by rw [hdj, e]))]
            exact inv.done j oj dj hj hlj hdj
        · intro d' hd'
          have hdd : d ≠ d' := fun e => hd' i o ho (by rw [hset, if_pos rfl]) (by rw [hd, e])
          rw [hd, put_get, if_neg hdd]
          refine inv.rest d' (fun j oj hj hlj => hd' j oj hj ?_)
          rw [hset]
          split
          · rfl
          · exact hlj
  · have hz : ∀ i, (Array.replicate l.toArray.size false).getD i false = false := fun i => by
      simp only [Array.getD_eq_getD_getElem?, Array.getElem?_replicate]
      split <;> rfl
    refine ⟨by simp, ?_, rfl, rfl, fun i o d _ hl => ?_, fun d _ => rfl, fun i o _ hl => ?_⟩
    · rw [hz, hz]; rfl
    all_goals (rw [hz] at hl; cases hl)
end Go.Chorus
namespace Go.Proofs.Ytgfafbanahiigaa
open Go.RowKit Go.Chorus
set_option maxHeartbeats 400000 in
theorem belowNone_any (n : Int) (w : World) : Calls Try.prog 36 #[.int .i64 n] w fun e' w' => e' = .returned (.bool (decide (n < 0))) ∧ w' = w := by
  go_enter Try.func36, Try.ntmps36
  go_wp2
  go_ret
  exact ⟨rfl, rfl⟩
set_option maxHeartbeats 1000000 in
/-- None is below 0. -/
theorem intIndexFunc_none (l : List Nat) (a : Option Addr) (cp : Nat) (w : World) (he : l ≠ [] → ∃ g, a = some ⟨g, 0, none⟩ ∧ ∀ (i n : Nat), l[i]? = some n → w.cell? ⟨g, i, none⟩ = some (.int .i64 (n : Int))) (hn : l.length ≤ 4294967296) :
    Calls Try.prog 48 #[.slice a l.length cp, .func (.func 36) #[] #[]] w fun e' w' => e' = .returned (.int .i64 (-1)) ∧ w' = w := by
  go_enter Try.func48, Try.ntmps48
  go_wp2
  go_loopw [8] (fun i wr => ∃ k : Nat, k ≤ l.length ∧ i = .int .i64 k ∧ wr = w) (fun i _ => l.length - (intOf i).toNat)
  case atStart => exact ⟨0, Nat.zero_le _, rfl, rfl⟩
  case round =>
    obtain ⟨k, hk, rfl, hw⟩ := hrel
    subst hw
    by_cases hlt : k < l.length
    · obtain ⟨m, hek⟩ : ∃ m, l[k]? = some m := ⟨_, List.getElem?_eq_getElem hlt⟩
      obtain ⟨g, rfl, heg⟩ := he (by intro h; rw [h] at hlt; simp at hlt)
      have c0 := heg k m hek
      have cz := World.block_lt_of_cell? wr _ c0
      have hm0 : ¬ (m : Int) < 0 := by omega
      have hmd : decide ((m : Int) < 0) = false := by rw [decide_eq_false_iff_not]; exact hm0
      clear hek heg
      go_wp2_with fail
      refine (belowNone_any m wr).mono ?_
      rintro e' w' ⟨rfl, rfl⟩
      go_wp2
      go_roundw
      case rel => exact ⟨k + 1, by omega, by go_num, trivial⟩
      case measure => simp [intOf]; omega
    · go_wp2
      go_ret
      exact ⟨rfl, rfl⟩
set_option maxHeartbeats 1000000 in
theorem intContains_none (l : List Nat) (a : Option Addr) (cp : Nat) (w : World) (he : l ≠ [] → ∃ g, a = some ⟨g, 0, none⟩ ∧ ∀ (i n : Nat), l[i]? = some n → w.cell? ⟨g, i, none⟩ = some (.int .i64 (n : Int))) (hn : l.length ≤ 4294967296) :
    Calls Try.prog 35 #[.slice a l.length cp, .func (.func 36) #[] #[]] w fun e' w' => e' = .returned (.bool false) ∧ w' = w := by
  go_enter Try.func35, Try.ntmps35
  go_wp2_with fail
  refine (intIndexFunc_none l a cp w he hn).mono ?_
  rintro e' w' ⟨rfl, rfl⟩
  go_wp2
  go_ret
  exact ⟨rfl, rfl⟩
set_option maxHeartbeats 400000 in
theorem lLen_any (a : Option Addr) (n c : Nat) (w : World) : Calls Try.prog 107 #[.slice a n c] w fun e' w' => e' = .returned (.int .i64 n) ∧ w' = w := by
  go_enter Try.func107, Try.ntmps107
  go_wp2
  go_ret
  exact ⟨rfl, rfl⟩
/-- An operation's cells at a place. -/
def OpAt (w : World) (g o : Nat) (m : MOp) : Prop :=
  w.cell? ⟨g, o, none⟩ = some (.int .u8 m.o.kind) ∧ w.cell? ⟨g, o + 1, none⟩ = some (.int .u8 m.o.peer) ∧ w.cell? ⟨g, o + 2, none⟩ = some (.int .u32 m.o.num) ∧ w.cell? ⟨g, o + 3, none⟩ = some (.int .u32 m.o.clock) ∧
    w.cell? ⟨g, o + 4, none⟩ = some (.slice (some ⟨m.g, 0, none⟩) m.o.seen.length m.cap) ∧ w.cell? ⟨g, o + 5, none⟩ = some (.int .u32 m.o.nclock) ∧ w.cell? ⟨g, o + 6, none⟩ = some (.int .u8 m.o.npeer) ∧ w.cell? ⟨g, o + 7, none⟩ = some (.int .i32 m.o.char)
def opZero : Array Value := #[.int .u8 0, .int .u8 0, .int .u32 0, .int .u32 0, .slice none 0 0, .int .u32 0, .int .u8 0, .int .i32 0]
def MOp.arr (m : MOp) : Array Value := #[.int .u8 m.o.kind, .int .u8 m.o.peer, .int .u32 m.o.num, .int .u32 m.o.clock, .slice (some ⟨m.g, 0, none⟩) m.o.seen.length m.cap, .int .u32 m.o.nclock, .int .u8 m.o.npeer, .int .i32 m.o.char]
set_option maxHeartbeats 1000000 in
set_option maxRecDepth 100000 in
theorem lLess_any (g n c i j gi oi ni ci gj oj nj cj : Nat) (x y : MOp) (w : World) (hi : i < n) (hj : j < n) (hni : 0 < ni) (hnj : 0 < nj)
    (h1 : w.cell? ⟨g, i, none⟩ = some (.slice (some ⟨gi, oi, none⟩) ni ci)) (h2 : w.cell? ⟨g, j, none⟩ = some (.slice (some ⟨gj, oj, none⟩) nj cj)) (hx : OpAt w gi oi x) (hy : OpAt w gj oj y) :
    Calls Try.prog 108 #[.slice (some ⟨g, 0, none⟩) n c, .int .i64 i, .int .i64 j] w fun e' w' => e' = .returned (.bool (lessO x.o y.o)) ∧ Kept (fun _ => False) w w' := by
  obtain ⟨x0, x1, x2, x3, x4, x5, x6, x7⟩ := hx
  obtain ⟨y0, y1, y2, y3, y4, y5, y6, y7⟩ := hy
  have hii : (i : Int) < (n : Int) := by omega
  have hji : (j : Int) < (n : Int) := by omega
  have hn1 : (0 : Int) < (ni : Int) := by omega
  have hn2 : (0 : Int) < (nj : Int) := by omega
  go_enter Try.func108, Try.ntmps108
  go_wp2_with fail
  refine wp_region_pair (by kernel_rfl) _ 12 13 14 15 7 8 rfl (by kernel_rfl) (fun k => match k with
    | 0 => .slice (some ⟨g, 0, none⟩) n c
    | 1 => .int .i64 i
    | 2 => .pointer (some ⟨g, i, none⟩)
    | 3 => .slice (some ⟨gi, oi, none⟩) ni ci
    | 4 => .pointer (some ⟨gi, oi, none⟩)
    | 5 => .agg x.arr
    | 6 => .slice (some ⟨g, 0, none⟩) n c
    | 7 => .int .i64 j
    | 8 => .pointer (some ⟨g, j, none⟩)
    | 9 => .slice (some ⟨gj, oj, none⟩) nj cj
    | 10 => .pointer (some ⟨gj, oj, none⟩)
    | _ => .agg y.arr) 80 opZero x.arr y.arr ?_ ?_ ?_ ?_ ?_
  · intro k o ho n1 n2 n3 n4 a wa up
    have hold : ∀ d : Nat, d < 3 → a.tmps[d]? = _ := fun d hd => up.old d (by
      intro q hq hqd
      simp only [List.mem_cons, List.not_mem_nil, or_false] at hq
      rcases hq with rfl | rfl | rfl | rfl | rfl | rfl | rfl | rfl | rfl | rfl | rfl | rfl | rfl | rfl | rfl | rfl <;> simp at hqd <;> omega)
    have o0 := hold 0 (by decide)
    have o1 := hold 1 (by decide)
    have o2 := hold 2 (by decide)
    simp at o0 o1 o2
    clear hold
    rcases k with _ | _ | _ | _ | _ | _ | _ | _ | _ | _ | _ | _ | _ | _ | _ | _ | k
    all_goals simp only [List.getElem?_cons_zero, List.getElem?_cons_succ, List.getElem?_nil, Option.some.injEq, reduceCtorEq] at ho
    all_goals first | (exact absurd rfl n1) | (exact absurd rfl n2) | (exact absurd rfl n3) | (exact absurd rfl n4) | skip
    all_goals subst ho
    · simp [Oper.wp, go_sem, Act.eval, o0]
    · simp [Oper.wp, go_sem, Act.eval, o1]
    · have s0 := up.dep ⟨0, .data⟩ (by simp) rfl (by decide) (by decide) _ 9 rfl rfl
      have s1 := up.dep ⟨1, .data⟩ (by simp) rfl (by decide) (by decide) _ 10 rfl rfl
      simp only [] at s0 s1
      simp [Oper.wp, go_sem, Act.eval, s0, s1, hii]
    · have s0 := up.dep ⟨2, .data⟩ (by simp) rfl (by decide) (by decide) _ 11 rfl rfl
      have c0 := up.kept.cell' h1 (fun h => h)
      simp only [] at s0
      simp [Oper.wp, go_sem, Act.eval, s0, c0]
    · have s0 := up.dep ⟨3, .data⟩ (by simp) rfl (by decide) (by decide) _ 12 rfl rfl
      simp only [] at s0
      simp [Oper.wp, go_sem, Act.eval, s0, hni]
    · have s0 := up.dep ⟨4, .data⟩ (by simp) rfl (by decide) (by decide) _ 13 rfl rfl
      have c0 := up.kept.cell' x0 (fun h => h)
      have c1 := up.kept.cell' x1 (fun h => h)
      have c2 := up.kept.cell' x2 (fun h => h)
      have c3 := up.kept.cell' x3 (fun h => h)
      have c4 := up.kept.cell' x4 (fun h => h)
      have c5 := up.kept.cell' x5 (fun h => h)
      have c6 := up.kept.cell' x6 (fun h => h)
      have c7 := up.kept.cell' x7 (fun h => h)
      simp only [] at s0
      simp [Oper.wp, go_sem, Act.eval, s0, c0, c1, c2, c3, c4, c5, c6, c7, MOp.arr]
    · simp [Oper.wp, go_sem, Act.eval, o0]
    · simp [Oper.wp, go_sem, Act.eval, o2]
    · have s0 := up.dep ⟨6, .data⟩ (by simp) rfl (by decide) (by decide) _ 15 rfl rfl
      have s1 := up.dep ⟨7, .data⟩ (by simp) rfl (by decide) (by decide) _ 16 rfl rfl
      simp only [] at s0 s1
      simp [Oper.wp, go_sem, Act.eval, s0, s1, hji]
    · have s0 := up.dep ⟨8, .data⟩ (by simp) rfl (by decide) (by decide) _ 17 rfl rfl
      have c0 := up.kept.cell' h2 (fun h => h)
      simp only [] at s0
      simp [Oper.wp, go_sem, Act.eval, s0, c0]
    · have s0 := up.dep ⟨9, .data⟩ (by simp) rfl (by decide) (by decide) _ 18 rfl rfl
      simp only [] at s0
      simp [Oper.wp, go_sem, Act.eval, s0, hnj]
    · have s0 := up.dep ⟨10, .data⟩ (by simp) rfl (by decide) (by decide) _ 19 rfl rfl
      have c0 := up.kept.cell' y0 (fun h => h)
      have c1 := up.kept.cell' y1 (fun h => h)
      have c2 := up.kept.cell' y2 (fun h => h)
      have c3 := up.kept.cell' y3 (fun h => h)
      have c4 := up.kept.cell' y4 (fun h => h)
      have c5 := up.kept.cell' y5 (fun h => h)
      have c6 := up.kept.cell' y6 (fun h => h)
      have c7 := up.kept.cell' y7 (fun h => h)
      simp only [] at s0
      simp [Oper.wp, go_sem, Act.eval, s0, c0, c1, c2, c3, c4, c5, c6, c7, MOp.arr]
  · intro k o ho hk a wa
    rcases hk with rfl | rfl
    all_goals
      simp only [List.getElem?_cons_zero, List.getElem?_cons_succ, Option.some.injEq] at ho
      subst ho
      simp [Oper.wp, go_sem, Act.eval, opZero]
  · intro o ho a wa b up hb hbz
    simp only [List.getElem?_cons_zero, List.getElem?_cons_succ, Option.some.injEq] at ho
    subst ho
    have s0 := up.dep ⟨5, .data⟩ (by simp) rfl (by decide) (by decide) _ 14 rfl rfl
    simp only [] at s0
    have hst := run_storeCells_from (P := Try.prog) b 80 x.arr.toList 0 opZero wa hbz (by rfl) (op_oneCell x)
    have hsz : x.arr.size = 8 := rfl
    have hrow : ([] ++ x.arr.toList).toArray = x.arr := by simp
    rw [List.take_zero, hrow] at hst
    simp [Oper.wp, go_sem, Act.eval, s0, hb, hsz]
    rw [hst]
    simp only [Result.andThen, Oper.upon_skip]
    exact ⟨rfl, kept_setRow (S := fun x => x = b) (Kept.refl _ wa) (fun _ => rfl) _, heap_setRow hbz⟩
  · intro o ho a wa b up hb hbz
    simp only [List.getElem?_cons_zero, List.getElem?_cons_succ, Option.some.injEq] at ho
    subst ho
    have s0 := up.dep ⟨11, .data⟩ (by simp) rfl (by decide) (by decide) _ 20 rfl rfl
    simp only [] at s0
    have hst := run_storeCells_from (P := Try.prog) b 80 y.arr.toList 0 opZero wa hbz (by rfl) (op_oneCell y)
    have hsz : y.arr.size = 8 := rfl
    have hrow : ([] ++ y.arr.toList).toArray = y.arr := by simp
    rw [List.take_zero, hrow] at hst
    simp [Oper.wp, go_sem, Act.eval, s0, hb, hsz]
    rw [hst]
    simp only [Result.andThen, Oper.upon_skip]
    exact ⟨rfl, kept_setRow (S := fun x => x = b) (Kept.refl _ wa) (fun _ => rfl) _, heap_setRow hbz⟩
  · intro wa b1 b2 hk hne hb1 hb2 hB1 hB2
    have hK : Kept (fun _ => False) w wa := ((Kept.refl _ w).drew).trans' hk
    have p1 : wa.cell? ⟨b1, 1, none⟩ = some (.int .u8 x.o.peer) := by rw [Lib.cell_of_heap hB1]; rfl
    have p3 : wa.cell? ⟨b1, 3, none⟩ = some (.int .u32 x.o.clock) := by rw [Lib.cell_of_heap hB1]; rfl
    have q1 : wa.cell? ⟨b2, 1, none⟩ = some (.int .u8 y.o.peer) := by rw [Lib.cell_of_heap hB2]; rfl
    have q3 : wa.cell? ⟨b2, 3, none⟩ = some (.int .u32 y.o.clock) := by rw [Lib.cell_of_heap hB2]; rfl
    have z1 := lt_of_heap hB1
    have z2 := lt_of_heap hB2
    clear hB1 hB2 x0 x1 x2 x3 x4 x5 x6 x7 y0 y1 y2 y3 y4 y5 y6 y7 h1 h2 hk
    simp only [putAll, Act.put]
    by_cases hcl : x.o.clock = y.o.clock
    · have e1 : ((x.o.clock : Int) == (y.o.clock : Int)) = true := by rw [beq_iff_eq]; omega
      go_wp2
      go_ret
      refine ⟨?_, hK⟩
      show Ending.returned (.bool (decide (x.o.peer < y.o.peer))) = _
      unfold lessO
      simp [hcl]
    · have e1 : ((x.o.clock : Int) == (y.o.clock : Int)) = false := by rw [beq_eq_false_iff_ne]; omega
      go_wp2
      go_ret
      refine ⟨?_, hK⟩
      show Ending.returned (.bool (decide (x.o.clock < y.o.clock))) = _
      unfold lessO
      simp [hcl]
/-- A line in memory: where its operations begin; there is one at least. -/
structure Ln where
  g : Nat
  off : Nat
  cap : Nat
  ms : List MOp
def Ln.val (l : Ln) : Value := .slice (some ⟨l.g, l.off, none⟩) l.ms.length l.cap
def Ln.ops (l : Ln) : List Ope := l.ms.map MOp.o
structure LnAt (w : World) (l : Ln) : Prop where
  ne : l.ms ≠ []
  room : l.ms.length ≤ l.cap
  at_ : ∃ cur, w.heap[l.g]? = some (.cells cur 80 (0, 0)) ∧ ∀ (i : Nat) (m : MOp), l.ms[i]? = some m → ∀ (j : Nat) (u : Value), m.cells[j]? = some u → cur[l.off + i * 8 + j]? = some u
theorem LnAt.keep {S : Nat → Prop} {w w' : World} {l : Ln} (h : LnAt w l) (k : Kept S w w') (hS : ¬ S l.g) : LnAt w' l := by
  obtain ⟨cur, a, b⟩ := h.at_
  exact ⟨h.ne, h.room, cur, k.heap a hS, b⟩
theorem LnAt.op {w : World} {l : Ln} (h : LnAt w l) (i : Nat) (m : MOp) (hi : l.ms[i]? = some m) : OpAt w l.g (l.off + i * 8) m := by
  obtain ⟨cur, a, b⟩ := h.at_
  have key : ∀ (j : Nat) (u : Value), m.cells[j]? = some u → w.cell? ⟨l.g, l.off + i * 8 + j, none⟩ = some u := fun j u hu => by rw [Lib.cell_of_heap a]; exact b i m hi j u hu
  exact ⟨key 0 _ rfl, key 1 _ rfl, key 2 _ rfl, key 3 _ rfl, key 4 _ rfl, key 5 _ rfl, key 6 _ rfl, key 7 _ rfl⟩
theorem Ln.ops_ne {w : World} {l : Ln} (h : LnAt w l) : l.ops ≠ [] := by
  unfold Ln.ops
  intro e
  exact h.ne (List.map_eq_nil_iff.1 e)
/-- The heap of lines in memory: the list's own block, and the row of lines. -/
structure HpAt (w : World) (bl : Nat) (v : Value) (hs : List Ln) : Prop where
  box : w.heap[bl]? = some (.cells #[v] 106 (0, 0))
  row : w.ownsRow 0 109 1 v hs.length (hs.map Ln.val)
  lines : ∀ l ∈ hs, LnAt w l
/-- The blocks that it may write. -/
def HpF (bl : Nat) (v : Value) (b : Nat) : Prop := b = bl ∨ v.ownBlock = some b
theorem HpAt.keep {S : Nat → Prop} {w w' : World} {bl : Nat} {v : Value} {hs : List Ln} (h : HpAt w bl v hs) (k : Kept S w w') (h1 : ∀ b, HpF bl v b → ¬ S b) (h2 : ∀ l ∈ hs, ¬ S l.g) : HpAt w' bl v hs :=
  ⟨k.heap h.box (h1 _ (Or.inl rfl)), ownsRow_kept h.row k (fun b hb => h1 b (Or.inr hb)), fun l hl => (h.lines l hl).keep k (h2 l hl)⟩
theorem HpAt.quiet {w w' : World} {bl : Nat} {v : Value} {hs : List Ln} (h : HpAt w bl v hs) (k : Kept (fun _ => False) w w') : HpAt w' bl v hs := h.keep k (fun _ _ h => h) (fun _ _ h => h)
theorem HpAt.off {w : World} {bl : Nat} {v : Value} {hs : List Ln} (h : HpAt w bl v hs) : ∀ l ∈ hs, ¬ HpF bl v l.g := by
  intro l hl
  obtain ⟨cur, a, _⟩ := (h.lines l hl).at_
  rintro (e | e)
  · rw [e, h.box] at a; simp at a
  · exact own_ne h.row a (by decide) e
theorem HpAt.cell {w : World} {bl : Nat} {v : Value} {hs : List Ln} (h : HpAt w bl v hs) : w.cell? ⟨bl, 0, none⟩ = some v := by rw [Lib.cell_of_heap h.box]; rfl
/-- Where there is a line the row is a block. -/
theorem HpAt.block {w : World} {bl : Nat} {v : Value} {hs : List Ln} (h : HpAt w bl v hs) (hn : hs ≠ []) : ∃ g cap cur, v = .slice (some ⟨g, 0, none⟩) hs.length cap ∧ w.heap[g]? = some (.cells cur 109 (0, 0)) ∧ g ≠ bl ∧ ∀ (i : Nat) (l : Ln), hs[i]? = some l → cur[i]? = some l.val := by
  rcases h.row.2 with ⟨_, h0⟩ | ⟨g, cap, cur, rfl, _, hg, hnc, hm, hsz, htk⟩
  · exact absurd (List.length_eq_zero_iff.1 h0) hn
  · refine ⟨g, cap, cur, rfl, hg, fun e => ?_, fun i l hi => ?_⟩
    · rw [e, h.box] at hg; simp at hg
    · have hil := (List.getElem?_eq_some_iff.1 hi).1
      have h1 : (hs.map Ln.val)[i]? = some l.val := by rw [List.getElem?_map, hi]; rfl
      rw [← htk, List.getElem?_take, if_pos (by omega)] at h1
      rw [← Array.getElem?_toList]; exact h1
theorem meth_push (p : Value) (w : World) : (method 264 108 p "Push").run Try.prog w = .ok (111, p) w := by kernel_rfl
theorem meth_pop (p : Value) (w : World) : (method 264 108 p "Pop").run Try.prog w = .ok (110, p) w := by kernel_rfl
theorem meth_len (bl : Nat) (v : Value) (w : World) (h : w.cell? ⟨bl, 0, none⟩ = some v) : (method 264 108 (.pointer (some ⟨bl, 0, none⟩)) "Len").run Try.prog w = .ok (107, v) w := by
  have h1 : (method 264 108 (.pointer (some ⟨bl, 0, none⟩)) "Len").run Try.prog w = (do let x ← loadVar 106 ⟨bl, 0, none⟩; pure (107, x) : Sem (FuncId × Value)).run Try.prog w := by kernel_rfl
  rw [h1]
  simp [go_sem, h]
theorem meth_less (bl : Nat) (v : Value) (w : World) (h : w.cell? ⟨bl, 0, none⟩ = some v) : (method 264 108 (.pointer (some ⟨bl, 0, none⟩)) "Less").run Try.prog w = .ok (108, v) w := by
  have h1 : (method 264 108 (.pointer (some ⟨bl, 0, none⟩)) "Less").run Try.prog w = (do let x ← loadVar 106 ⟨bl, 0, none⟩; pure (108, x) : Sem (FuncId × Value)).run Try.prog w := by kernel_rfl
  rw [h1]
  simp [go_sem, h]
theorem meth_swap (bl : Nat) (v : Value) (w : World) (h : w.cell? ⟨bl, 0, none⟩ = some v) : (method 264 108 (.pointer (some ⟨bl, 0, none⟩)) "Swap").run Try.prog w = .ok (109, v) w := by
  have h1 : (method 264 108 (.pointer (some ⟨bl, 0, none⟩)) "Swap").run Try.prog w = (do let x ← loadVar 106 ⟨bl, 0, none⟩; pure (109, x) : Sem (FuncId × Value)).run Try.prog w := by kernel_rfl
  rw [h1]
  simp [go_sem, h]
/-- Which of two lines goes ahead. -/
theorem hp_less {w : World} {bl : Nat} {v : Value} {hs : List Ln} (h : HpAt w bl v hs) (i j : Nat) (x y : Ln) (hi : hs[i]? = some x) (hj : hs[j]? = some y) :
    Calls Try.prog 108 #[v, .int .i64 i, .int .i64 j] w fun e' w' => e' = .returned (.bool (lessA Ln.ops x y)) ∧ Kept (fun _ => False) w w' := by
  have hil := (List.getElem?_eq_some_iff.1 hi).1
  have hjl := (List.getElem?_eq_some_iff.1 hj).1
  obtain ⟨g, cap, cur, rfl, hg, _, hc⟩ := h.block (fun e => by rw [e] at hil; simp at hil)
  have hx := h.lines x (List.mem_of_getElem? hi)
  have hy := h.lines y (List.mem_of_getElem? hj)
  obtain ⟨mx, tx, ex⟩ := List.exists_cons_of_ne_nil hx.ne
  obtain ⟨my, ty, ey⟩ := List.exists_cons_of_ne_nil hy.ne
  have h1 : w.cell? ⟨g, i, none⟩ = some x.val := by rw [Lib.cell_of_heap hg]; exact hc i x hi
  have h2 : w.cell? ⟨g, j, none⟩ = some y.val := by rw [Lib.cell_of_heap hg]; exact hc j y hj
  have ox := hx.op 0 mx (by rw [ex]; rfl)
  have oy := hy.op 0 my (by rw [ey]; rfl)
  simp only [Nat.zero_mul, Nat.add_zero] at ox oy
  refine (lLess_any g hs.length cap i j x.g x.off x.ms.length x.cap y.g y.off y.ms.length y.cap mx my w hil hjl (by rw [ex]; simp) (by rw [ey]; simp) h1 h2 ox oy).mono ?_
  rintro e' w' ⟨rfl, hk⟩
  refine ⟨?_, hk⟩
  unfold lessA Ln.ops
  rw [ex, ey]
  rfl
def swapL (hs : List Ln) (i j : Nat) (x y : Ln) : List Ln := (hs.set i y).set j x
set_option maxHeartbeats 1000000 in
set_option maxRecDepth 100000 in
theorem lSwap_raw (g n c i j : Nat) (x y : Value) (cur : Array Value) (w : World) (hi : i < n) (hj : j < n) (hg : w.heap[g]? = some (.cells cur 109 (0, 0))) (hx : cur[i]? = some x) (hy : cur[j]? = some y)
    (sx : ∃ a k d, x = .slice a k d) (sy : ∃ a k d, y = .slice a k d) :
    Calls Try.prog 109 #[.slice (some ⟨g, 0, none⟩) n c, .int .i64 i, .int .i64 j] w fun e' w' => e' = .returned (.tuple #[]) ∧ w' = ((w.drew.setCell ⟨g, i, none⟩ y).setCell ⟨g, j, none⟩ x) := by
  have hii : (i : Int) < (n : Int) := by omega
  have hji : (j : Int) < (n : Int) := by omega
  have cx : w.drew.cell? ⟨g, i, none⟩ = some x := by rw [show w.drew.cell? ⟨g, i, none⟩ = w.cell? ⟨g, i, none⟩ from rfl, Lib.cell_of_heap hg]; exact hx
  have cy : w.drew.cell? ⟨g, j, none⟩ = some y := by rw [show w.drew.cell? ⟨g, j, none⟩ = w.cell? ⟨g, j, none⟩ from rfl, Lib.cell_of_heap hg]; exact hy
  have fz : ∀ k, w.drew.frozen? ⟨g, k, none⟩ = false := fun k => Lib.frozen_of_heap (w := w.drew) hg k
  obtain ⟨ax, kx, dx, rfl⟩ := sx
  obtain ⟨ay, ky, dy, rfl⟩ := sy
  have hg2 := heap_set_same (w := w.drew) hg i (.slice ay ky dy)
  have hjs : j < cur.size := (Array.getElem?_eq_some_iff.1 hy).1
  obtain ⟨u, cu⟩ : ∃ u, (w.drew.setCell ⟨g, i, none⟩ (.slice ay ky dy)).cell? ⟨g, j, none⟩ = some u := by
    rw [Lib.cell_of_heap hg2]
    exact ⟨_, Array.getElem?_eq_getElem (by simpa using hjs)⟩
  have fz2 : ∀ k, (w.drew.setCell ⟨g, i, none⟩ (.slice ay ky dy)).frozen? ⟨g, k, none⟩ = false := Lib.frozen_of_heap hg2
  go_enter Try.func109, Try.ntmps109
  go_wp2_with fail
  refine wp_region_stores (by kernel_rfl) _ 13 15 rfl (by kernel_rfl) (fun k => match k with
    | 0 => .slice (some ⟨g, 0, none⟩) n c
    | 1 => .int .i64 i
    | 2 => .slice (some ⟨g, 0, none⟩) n c
    | 3 => .int .i64 j
    | 4 => .slice (some ⟨g, 0, none⟩) n c
    | 5 => .int .i64 j
    | 6 => .pointer (some ⟨g, j, none⟩)
    | 7 => .slice ay ky dy
    | 8 => .slice (some ⟨g, 0, none⟩) n c
    | 9 => .int .i64 i
    | 10 => .pointer (some ⟨g, i, none⟩)
    | 11 => .slice ax kx dx
    | 12 => .pointer (some ⟨g, i, none⟩)
    | _ => .pointer (some ⟨g, j, none⟩)) (w.drew.setCell ⟨g, i, none⟩ (.slice ay ky dy)) ((w.drew.setCell ⟨g, i, none⟩ (.slice ay ky dy)).setCell ⟨g, j, none⟩ (.slice ax kx dx)) ?_ ?_ ?_ ?_
  · intro k o ho n3 n4 a up W hW
    have hold : ∀ d : Nat, d < 3 → a.tmps[d]? = _ := fun d hd => up.old d (by
      intro q hq hqd
      simp only [List.mem_cons, List.not_mem_nil, or_false] at hq
      rcases hq with rfl | rfl | rfl | rfl | rfl | rfl | rfl | rfl | rfl | rfl | rfl | rfl | rfl | rfl | rfl | rfl <;> simp at hqd <;> omega)
    have o0 := hold 0 (by decide)
    have o1 := hold 1 (by decide)
    have o2 := hold 2 (by decide)
    simp at o0 o1 o2
    clear hold
    rcases k with _ | _ | _ | _ | _ | _ | _ | _ | _ | _ | _ | _ | _ | _ | _ | _ | k
    all_goals simp only [List.getElem?_cons_zero, List.getElem?_cons_succ, List.getElem?_nil, Option.some.injEq, reduceCtorEq] at ho
    all_goals first | (exact absurd rfl n3) | (exact absurd rfl n4) | skip
    all_goals subst ho
    · simp [Oper.wp, go_sem, Act.eval, o0]
    · simp [Oper.wp, go_sem, Act.eval, o1]
    · simp [Oper.wp, go_sem, Act.eval, o0]
    · simp [Oper.wp, go_sem, Act.eval, o2]
    · simp [Oper.wp, go_sem, Act.eval, o0]
    · simp [Oper.wp, go_sem, Act.eval, o2]
    · have s0 := up.dep ⟨4, .data⟩ (by simp) rfl _ 10 rfl rfl
      have s1 := up.dep ⟨5, .data⟩ (by simp) rfl _ 11 rfl rfl
      simp only [] at s0 s1
      simp [Oper.wp, go_sem, Act.eval, s0, s1, hji]
    · have s0 := up.dep ⟨6, .data⟩ (by simp) rfl _ 12 rfl rfl
      simp only [] at s0
      rcases hW with rfl | ⟨_, hh⟩ | ⟨_, hh⟩
      · simp [Oper.wp, go_sem, Act.eval, s0, cy]
      · exact absurd (Eq.trans hh.symm (by kernel_rfl) : false = true) (by decide)
      · exact absurd (Eq.trans hh.symm (by kernel_rfl) : false = true) (by decide)
    · simp [Oper.wp, go_sem, Act.eval, o0]
    · simp [Oper.wp, go_sem, Act.eval, o1]
    · have s0 := up.dep ⟨8, .data⟩ (by simp) rfl _ 14 rfl rfl
      have s1 := up.dep ⟨9, .data⟩ (by simp) rfl _ 15 rfl rfl
      simp only [] at s0 s1
      simp [Oper.wp, go_sem, Act.eval, s0, s1, hii]
    · have s0 := up.dep ⟨10, .data⟩ (by simp) rfl _ 16 rfl rfl
      simp only [] at s0
      rcases hW with rfl | ⟨_, hh⟩ | ⟨_, hh⟩
      · simp [Oper.wp, go_sem, Act.eval, s0, cx]
      · exact absurd (Eq.trans hh.symm (by kernel_rfl) : false = true) (by decide)
      · exact absurd (Eq.trans hh.symm (by kernel_rfl) : false = true) (by decide)
    · have s0 := up.dep ⟨0, .data⟩ (by simp) rfl _ 6 rfl rfl
      have s1 := up.dep ⟨1, .data⟩ (by simp) rfl _ 7 rfl rfl
      simp only [] at s0 s1
      simp [Oper.wp, go_sem, Act.eval, s0, s1, hii]
    · have s0 := up.dep ⟨2, .data⟩ (by simp) rfl _ 8 rfl rfl
      have s1 := up.dep ⟨3, .data⟩ (by simp) rfl _ 9 rfl rfl
      simp only [] at s0 s1
      simp [Oper.wp, go_sem, Act.eval, s0, s1, hji]
  · intro o ho a up
    simp only [List.getElem?_cons_zero, List.getElem?_cons_succ, Option.some.injEq] at ho
    subst ho
    have s0 := up.dep ⟨12, .data⟩ (by simp) rfl _ 18 rfl rfl
    have s1 := up.dep ⟨7, .data⟩ (by simp) rfl _ 13 rfl rfl
    simp only [] at s0 s1
    simp [Oper.wp, go_sem, Act.eval, s0, s1, cx, fz]
  · intro o ho a up
    simp only [List.getElem?_cons_zero, List.getElem?_cons_succ, Option.some.injEq] at ho
    subst ho
    have s0 := up.dep ⟨14, .data⟩ (by simp) rfl _ 19 rfl rfl
    have s1 := up.dep ⟨11, .data⟩ (by simp) rfl _ 17 rfl rfl
    simp only [] at s0 s1
    have cu' : (w.setCell ⟨g, i, none⟩ (.slice ay ky dy)).cell? ⟨g, j, none⟩ = some u := cu
    have fw : w.frozen? ⟨g, j, none⟩ = false := Lib.frozen_of_heap hg j
    simp [Oper.wp, go_sem, Act.eval, s0, s1, cu', fw]
  · simp only [putAll, Act.put]
    go_wp2
    go_end0
    exact ⟨rfl, rfl⟩
theorem info_line : (Try.prog.info? 109).map (fun i => (i.zero, i.size, i.bytes)) = some (some (.slice none 0 0), 1, 24) := by kernel_rfl
/-- A line is laid in the place of another one. -/
theorem hp_set {w : World} {bl g n cap : Nat} {hs : List Ln} (h : HpAt w bl (.slice (some ⟨g, 0, none⟩) n cap) hs) (i : Nat) (hi : i < hs.length) (l : Ln) (hl : LnAt w l) :
    HpAt (w.setCell ⟨g, i, none⟩ l.val) bl (.slice (some ⟨g, 0, none⟩) n cap) (hs.set i l) ∧ Kept (fun b => b = g) w (w.setCell ⟨g, i, none⟩ l.val) := by
  have K : Kept (fun b => b = g) w (w.setCell ⟨g, i, none⟩ l.val) := Kept.setCell (S := fun b => b = g) (Kept.refl _ w) (p := ⟨g, i, none⟩) (fun _ => rfl) _
  obtain ⟨h1, h2⟩ := h.row
  rcases h2 with ⟨e, _⟩ | ⟨g', cap', cur, e, hb, hg, hnc, hm, hsz, htk⟩
  · cases e
  · injection e with e1 e2 e3
    injection e1 with e1
    injection e1 with e1
    subst e1
    subst e2
    subst e3
    have hgl : g ≠ bl := fun e => by rw [e, h.box] at hg; simp at hg
    have hoff : ∀ (q : Ln), LnAt w q → q.g ≠ g := fun q hq e => by
      obtain ⟨c2, a, _⟩ := hq.at_
      rw [e, hg] at a
      simp at a
    refine ⟨⟨K.heap h.box (fun e => hgl e.symm), ⟨by simp, Or.inr ⟨g, cap, cur.setIfInBounds i l.val, by simp, hb, heap_set_same hg i l.val, by simpa using hnc, hm, by simpa using hsz, ?_⟩⟩, fun q hq => ?_⟩, K⟩
    · rw [Array.toList_setIfInBounds, List.length_set, List.take_set, htk, List.map_set]
    · rcases List.mem_or_eq_of_mem_set hq with hq | rfl
      · exact (h.lines q hq).keep K (hoff q (h.lines q hq))
      · exact hl.keep K (hoff _ hl)
theorem hp_swap {w : World} {bl : Nat} {v : Value} {hs : List Ln} (h : HpAt w bl v hs) (i j : Nat) (x y : Ln) (hi : hs[i]? = some x) (hj : hs[j]? = some y) :
    Calls Try.prog 109 #[v, .int .i64 i, .int .i64 j] w fun e' w' => e' = .returned (.tuple #[]) ∧ HpAt w' bl v (swapL hs i j x y) ∧ Kept (HpF bl v) w w' := by
  have hil := (List.getElem?_eq_some_iff.1 hi).1
  have hjl := (List.getElem?_eq_some_iff.1 hj).1
  obtain ⟨g, cap, cur, rfl, hg, hgl, hc⟩ := h.block (fun e => by rw [e] at hil; simp at hil)
  refine (lSwap_raw g hs.length cap i j x.val y.val cur w hil hjl hg (hc i x hi) (hc j y hj) ⟨_, _, _, rfl⟩ ⟨_, _, _, rfl⟩).mono ?_
  rintro e' w' ⟨rfl, rfl⟩
  have hd := h.quiet ((Kept.refl _ w).drew)
  obtain ⟨A1, A2⟩ := hp_set hd i hil y (hd.lines y (List.mem_of_getElem? hj))
  have hxl : LnAt (w.drew.setCell ⟨g, i, none⟩ y.val) x := by
    refine (hd.lines x (List.mem_of_getElem? hi)).keep A2 (fun e => ?_)
    obtain ⟨c2, a, _⟩ := (hd.lines x (List.mem_of_getElem? hi)).at_
    have hg' : w.drew.heap[g]? = some (.cells cur 109 (0, 0)) := hg
    rw [e, hg'] at a
    simp at a
  obtain ⟨B1, B2⟩ := hp_set A1 j (by rw [List.length_set]; exact hjl) x hxl
  refine ⟨rfl, B1, ?_⟩
  have k1 : Kept (fun b => b = g) w (w.drew.setCell ⟨g, i, none⟩ y.val) := (((Kept.refl (fun _ => False) w).drew).mono (fun _ _ h => h.elim)).trans A2 (fun _ _ h => h)
  exact (k1.trans B2 (fun _ _ h => h)).mono (fun b _ e => by subst e; exact Or.inr rfl)
set_option maxHeartbeats 1000000 in
set_option maxRecDepth 100000 in
theorem hp_pop {w : World} {bl : Nat} {v : Value} {hs : List Ln} {x : Ln} (h : HpAt w bl v (hs ++ [x])) (hn : hs.length ≤ 1000) :
    Calls Try.prog 110 #[.pointer (some ⟨bl, 0, none⟩)] w fun e' w' => e' = .returned (.iface 109 x.val) ∧ ∃ v', HpAt w' bl v' hs ∧ Kept (HpF bl v) w w' ∧ ∀ b, HpF bl v' b → HpF bl v b := by
  obtain ⟨g, cap, cur, rfl, hg, hgl, hc⟩ := h.block (by simp)
  have c0 := h.cell
  have z0 := lt_of_heap h.box
  have cx : w.cell? ⟨g, hs.length, none⟩ = some x.val := by rw [Lib.cell_of_heap hg]; exact hc hs.length x (by simp)
  have zg := lt_of_heap hg
  have f0 : ∀ j, w.frozen? ⟨bl, j, none⟩ = false := Lib.frozen_of_heap h.box
  have hcap : hs.length + 1 ≤ cap := by
    rcases h.row.2 with ⟨e, _⟩ | ⟨g', cap', cur', e, hb, hg', hnc, hm, hsz, htk⟩
    · cases e
    · injection e with e1 e2 e3
      subst e3
      simpa using hnc
  have hfin : Hid (HpAt (w.setCell ⟨bl, 0, none⟩ (.slice (some ⟨g, 0, none⟩) hs.length cap)) bl (.slice (some ⟨g, 0, none⟩) hs.length cap) hs ∧ Kept (HpF bl (.slice (some ⟨g, 0, none⟩) (hs ++ [x]).length cap)) w (w.setCell ⟨bl, 0, none⟩ (.slice (some ⟨g, 0, none⟩) hs.length cap))) := by
    have K : Kept (fun b => b = bl) w (w.setCell ⟨bl, 0, none⟩ (.slice (some ⟨g, 0, none⟩) hs.length cap)) := Kept.setCell (S := fun b => b = bl) (Kept.refl _ w) (p := ⟨bl, 0, none⟩) (fun _ => rfl) _
    refine ⟨⟨?_, ?_, fun q hq => ?_⟩, K.mono (fun b _ e => Or.inl e)⟩
    · rw [heap_set_same h.box]; rfl
    · obtain ⟨h1, h2⟩ := h.row
      rcases h2 with ⟨e, _⟩ | ⟨g', cap', cur', e, hb, hg', hnc, hm, hsz, htk⟩
      · cases e
      · injection e with e1 e2 e3
        injection e1 with e1
        injection e1 with e1
        subst e1
        subst e3
        refine ⟨by simp, Or.inr ⟨g, cap, cur', rfl, hb, K.heap hg' (fun e => hgl e), by omega, hm, hsz, ?_⟩⟩
        have h3 := congrArg (List.take hs.length) htk
        rw [List.take_take, List.map_append, List.length_append] at h3
        rw [Nat.mul_one]
        have h4 : min hs.length ((hs.length + [x].length) * 1) = hs.length := by simp
        rw [h4] at h3
        rw [h3]
        exact List.take_left' (by simp)
    · refine (h.lines q (by simp [hq])).keep K (fun e => ?_)
      obtain ⟨c2, a, _⟩ := (h.lines q (by simp [hq])).at_
      rw [e, h.box] at a
      simp at a
  simp only [List.length_append, List.length_singleton] at c0
  obtain ⟨n, hnn⟩ : ∃ n, hs.length = n := ⟨_, rfl⟩
  rw [hnn] at c0 cx hcap hn
  have hlt : (n : Int) < (n : Int) + 1 := by omega
  have hx : x.val = .slice (some ⟨x.g, x.off, none⟩) x.ms.length x.cap := rfl
  rw [hx] at cx ⊢
  have HN : Hid (hs.length = n) := hnn
  clear h hg hc hnn hx
  go_enter Try.func110, Try.ntmps110
  go_wp2
  go_ret
  obtain ⟨a1, a2⟩ := hfin.out
  rw [HN.out] at a1 a2
  exact ⟨rfl, _, a1, a2, fun b hb => hb⟩
set_option maxHeartbeats 1000000 in
set_option maxRecDepth 100000 in
theorem hp_push {w : World} {bl : Nat} {v : Value} {hs : List Ln} {x : Ln} (h : HpAt w bl v hs) (hn : hs.length ≤ 1000) (hx : LnAt w x) :
    Calls Try.prog 111 #[.pointer (some ⟨bl, 0, none⟩), .iface 109 x.val] w fun e' w' => e' = .returned (.tuple #[]) ∧ ∃ v', HpAt w' bl v' (hs ++ [x]) ∧ Kept (HpF bl v) w w' ∧ ∀ b, HpF bl v' b → HpF bl v b ∨ w.heap.size ≤ b := by
  have c0 := h.cell
  have z0 := lt_of_heap h.box
  obtain ⟨a0, c00, hv0, _, _⟩ := own_slice h.row
  subst hv0
  have hpb : (Value.slice a0 hs.length c00).ownBlock ≠ some bl := own_ne h.row h.box (by decide)
  have HB : Hid (w.heap[bl]? = some (.cells #[.slice a0 hs.length c00] 106 (0, 0))) := h.box
  have hfin : ∀ (w1 : World) (av : Option Addr) (cv : Nat), Kept (fun b => (Value.slice a0 hs.length c00).ownBlock = some b) w w1 → w1.ownsRow 0 109 1 (.slice av (hs.length + 1) cv) (hs.length + 1) (hs.map Ln.val ++ [x.val]) → (∀ b, (Value.slice av (hs.length + 1) cv).ownBlock = some b → (Value.slice a0 hs.length c00).ownBlock = some b ∨ w.heap.size ≤ b) →
      HpAt (w1.setCell ⟨bl, 0, none⟩ (.slice av (hs.length + 1) cv)) bl (.slice av (hs.length + 1) cv) (hs ++ [x]) ∧ Kept (HpF bl (.slice a0 hs.length c00)) w (w1.setCell ⟨bl, 0, none⟩ (.slice av (hs.length + 1) cv)) ∧ ∀ b, HpF bl (.slice av (hs.length + 1) cv) b → HpF bl (.slice a0 hs.length c00) b ∨ w.heap.size ≤ b := by
    intro w1 av cv k1 hown' hblk
    have hbx1 := k1.heap h.box hpb
    have kS : Kept (fun b => b = bl) w1 (w1.setCell ⟨bl, 0, none⟩ (.slice av (hs.length + 1) cv)) := Kept.setCell (S := fun b => b = bl) (Kept.refl _ w1) (p := ⟨bl, 0, none⟩) (fun _ => rfl) _
    have kA : Kept (HpF bl (.slice a0 hs.length c00)) w (w1.setCell ⟨bl, 0, none⟩ (.slice av (hs.length + 1) cv)) := (k1.mono (fun _ _ h => Or.inr h)).trans kS (fun _ _ h => Or.inl h)
    refine ⟨⟨?_, ?_, fun q hq => ?_⟩, kA, fun b hb => ?_⟩
    · rw [heap_set_same hbx1]; rfl
    · rw [List.length_append, List.map_append]
      refine ownsRow_kept hown' kS (fun b hb e => ?_)
      rcases hblk b hb with h1 | h1
      · rw [e] at h1; exact hpb h1
      · omega
    · have hq2 : LnAt w q := by
        rcases List.mem_append.1 hq with hq | hq
        · exact h.lines q hq
        · rw [List.mem_singleton.1 hq]; exact hx
      refine hq2.keep kA (fun e => ?_)
      obtain ⟨c2, a, _⟩ := hq2.at_
      rcases e with e | e
      · rw [e, h.box] at a; simp at a
      · exact own_ne h.row a (by decide) e
    · rcases hb with hb | hb
      · exact Or.inl (Or.inl hb)
      · rcases hblk b hb with h1 | h1
        · exact Or.inl (Or.inr h1)
        · exact Or.inr h1
  have hrow := h.row
  have hxv : x.val = .slice (some ⟨x.g, x.off, none⟩) x.ms.length x.cap := rfl
  rw [hxv]
  clear h hx
  go_enter Try.func111, Try.ntmps111
  go_wp2_with fail
  refine wp_region_tail (by kernel_rfl) 8 _ rfl (by kernel_rfl) (fun b => (Value.slice a0 hs.length c00).ownBlock = some b) 7 (fun i u wx => match i with
    | 0 => u = .pointer (some ⟨bl, 0, none⟩)
    | 1 => u = .pointer (some ⟨bl, 0, none⟩)
    | 2 => u = .pointer (some ⟨bl, 0, none⟩)
    | 3 => u = .slice a0 hs.length c00
    | 4 => u = .iface 109 (.slice (some ⟨x.g, x.off, none⟩) x.ms.length x.cap)
    | 5 => u = .slice (some ⟨x.g, x.off, none⟩) x.ms.length x.cap
    | 6 => ∃ b, u = .slice (some ⟨b, 0, none⟩) 1 1 ∧ wx.heap[b]? = some (.cells #[.slice (some ⟨x.g, x.off, none⟩) x.ms.length x.cap] 109 (0, 0)) ∧ w.heap.size ≤ b
    | 7 => wx.ownsRow 0 109 1 u (hs.length + 1) (hs.map Ln.val ++ [x.val]) ∧ ∀ b, u.ownBlock = some b → (Value.slice a0 hs.length c00).ownBlock = some b ∨ w.heap.size ≤ b
    | _ => True) ?_ ?_ ?_ ?_ ?_
  · intro i u wa wb hu hk
    split at hu
    case h_7 =>
      obtain ⟨b, h1, h2, h3⟩ := hu
      exact ⟨b, h1, hk.heap h2 (fun h => h), h3⟩
    case h_8 => exact ⟨ownsRow_kept hu.1 hk (fun _ _ h => h), hu.2⟩
    all_goals exact hu
  · intro i u wa wb hi hu hk
    split at hu
    case h_7 =>
      obtain ⟨b, h1, h2, h3⟩ := hu
      exact ⟨b, h1, hk.heap h2 (fun h => by have := hrow.lt b h; omega), h3⟩
    case h_8 => exact absurd rfl hi
    all_goals exact hu
  · intro i o hi8 hi7 hi a w1 hk up
    have hk' : Kept (fun b => (Value.slice a0 hs.length c00).ownBlock = some b) w w1 := (((Kept.refl (fun _ => False) w).drew).mono (fun _ _ h => h.elim)).trans hk (fun _ _ h => h)
    have d0 : w1.cell? ⟨bl, 0, none⟩ = some (.slice a0 hs.length c00) := hk'.cell' c0 hpb
    have hold : ∀ d : Nat, d < 2 → a.tmps[d]? = _ := fun d hd => up.old d (by
      intro j oj hj hjd
      exfalso
      rcases j with _ | _ | _ | _ | _ | _ | _ | _ | _ | _ | j <;> simp at hj <;> subst hj <;> simp at hjd <;> omega)
    have o0 := hold 0 (by decide)
    have o1 := hold 1 (by decide)
    simp at o0 o1
    clear hold
    rcases i with _ | _ | _ | _ | _ | _ | _ | _ | i
    all_goals simp only [List.getElem?_cons_zero, List.getElem?_cons_succ, List.getElem?_nil, Option.some.injEq, reduceCtorEq] at hi
    all_goals try subst hi
    · simp [Oper.wp, go_sem, Act.eval, o0]
      exact ⟨_, rfl, rfl, Kept.refl _ _⟩
    · simp [Oper.wp, go_sem, Act.eval, o0]
      exact ⟨_, rfl, rfl, Kept.refl _ _⟩
    · obtain ⟨v1, s1, hv1⟩ := up.dep ⟨1, .data⟩ (by simp) rfl _ 5 rfl rfl
      have hv1 : v1 = _ := hv1
      subst hv1
      simp [Oper.wp, go_sem, Act.eval, s1]
      exact ⟨_, rfl, rfl, Kept.refl _ _⟩
    · obtain ⟨v2, s2, hv2⟩ := up.dep ⟨2, .data⟩ (by simp) rfl _ 6 rfl rfl
      have hv2 : v2 = _ := hv2
      subst hv2
      simp [Oper.wp, go_sem, Act.eval, s2, d0]
      exact ⟨_, rfl, rfl, Kept.refl _ _⟩
    · simp [Oper.wp, go_sem, Act.eval, o1]
      exact ⟨_, rfl, rfl, Kept.refl _ _⟩
    · obtain ⟨v4, s4, hv4⟩ := up.dep ⟨4, .data⟩ (by simp) rfl _ 8 rfl rfl
      have hv4 : v4 = _ := hv4
      subst hv4
      simp [Oper.wp, go_sem, Act.eval, s4]
      exact ⟨_, rfl, rfl, Kept.refl _ _⟩
    · obtain ⟨v5, s5, hv5⟩ := up.dep ⟨5, .data⟩ (by simp) rfl _ 9 rfl rfl
      have hv5 : v5 = _ := hv5
      subst hv5
      simp [Oper.wp, go_sem, Act.eval, s5]
      exact ⟨_, rfl, ⟨_, rfl, heap_alloc_new w1 _, hk'.size⟩, (Kept.refl _ _).alloc _⟩
    · exact absurd rfl hi7
    · omega
  · intro o _ ho a w1 hk up
    simp only [List.getElem?_cons_zero, List.getElem?_cons_succ, List.getElem?_nil, Option.some.injEq, reduceCtorEq] at ho
    subst ho
    obtain ⟨v3, s3, hv3⟩ := up.dep ⟨3, .data⟩ (by simp) rfl _ 7 rfl rfl
    have hv3 : v3 = _ := hv3
    subst hv3
    obtain ⟨v6, s6, vb, hv6, hvb, hvz⟩ := up.dep ⟨6, .data⟩ (by simp) rfl _ 10 rfl rfl
    subst hv6
    have hvb' : w1.heap[vb]? = some (.cells #[x.val] 109 (0, 0)) := hvb
    have hk' : Kept (fun _ => False) w w1 := ((Kept.refl _ w).drew).trans' hk
    obtain ⟨i0, hi0, hz0, hzs, hzb⟩ := info_parts info_line
    obtain ⟨v', w', hr, hown', hkp, hblk⟩ := append_strong Try.prog w1 106 106 109 i0 _ 1 24 Try.underlying106 hi0 hz0 hzs hzb rfl (by decide) (.slice a0 hs.length c00) hs.length _ (ownsRow_kept hrow hk' (fun _ _ h => h)) (.slice (some ⟨vb, 0, none⟩) 1 1) 1 [x.val]
      (Src.ofSlice _ Try.underlying106 ⟨vb, 0, none⟩ 1 1 _ rfl (fun j u hj => by rw [Addr.add_lit, Lib.cell_of_heap hvb']; simpa using hj) (fun u hu => by simp at hu; subst hu; rfl)) (by decide) (by unfold maxLen; omega) (by omega)
    refine Lib.wp_append_run w1 _ _ _ _ rfl (.slice a0 hs.length c00) (.slice (some ⟨vb, 0, none⟩) 1 1) (by simp [Act.eval, s3]) (by simp [Act.eval, s6]) v' w' (hr _) ?_
    refine ⟨v', rfl, ⟨hown', fun k hk2 => ?_⟩, hkp⟩
    rcases hblk k hk2 with h1 | h1
    · exact Or.inl h1
    · exact Or.inr (Nat.le_trans hk'.size h1)
  · intro vals w1 hk hv
    have h0 : vals 0 = _ := hv 0 (by decide)
    obtain ⟨h7, h7b⟩ := hv 7 (by decide)
    obtain ⟨v', hv'⟩ : ∃ v', vals 7 = v' := ⟨_, rfl⟩
    rw [hv'] at h7 h7b
    obtain ⟨av, cv, rfl, _, _⟩ := own_slice h7
    have k1 : Kept (fun b => (Value.slice a0 hs.length c00).ownBlock = some b) w w1 := (((Kept.refl (fun _ => False) w).drew).mono (fun _ _ h => h.elim)).trans hk (fun _ _ h => h)
    have HF : Hid _ := hfin w1 av cv k1 h7 h7b
    have hbx1 := k1.heap HB.out hpb
    have d0 : w1.cell? ⟨bl, 0, none⟩ = some (.slice a0 hs.length c00) := by rw [Lib.cell_of_heap hbx1]; rfl
    have dz := lt_of_heap hbx1
    have df : ∀ j, w1.frozen? ⟨bl, j, none⟩ = false := Lib.frozen_of_heap hbx1
    clear h7 h7b hbx1 k1 hfin hrow hv
    simp only [List.take_succ_cons, List.take_zero, List.drop_succ_cons, List.drop_zero, putAll, h0, hv']
    go_wp2
    go_end0
    exact ⟨rfl, _, HF.out⟩
set_option maxHeartbeats 1000000 in
set_option maxRecDepth 100000 in
theorem hp_up0 (h : Value) (w : World) : Calls Try.prog 67 #[h, .int .i64 0] w fun e' w' => e' = .returned (.tuple #[]) ∧ w' = w := by
  go_enter Try.func67, Try.ntmps67
  go_wp2
  go_loopw [1] (fun jv wr => jv = .int .i64 0 ∧ wr = w) (fun _ _ => 0)
  case atStart => exact ⟨rfl, rfl⟩
  case round =>
    obtain ⟨rfl, rfl⟩ := hrel
    go_wp2
    go_end0
    exact ⟨rfl, rfl⟩
set_option maxHeartbeats 1000000 in
set_option maxRecDepth 100000 in
theorem hp_up1 {w : World} {bl : Nat} {v : Value} {h x : Ln} (H : HpAt w bl v [h, x]) :
    Calls Try.prog 67 #[.iface 108 (.pointer (some ⟨bl, 0, none⟩)), .int .i64 1] w fun e' w' => e' = .returned (.tuple #[]) ∧ ∃ hs', HpAt w' bl v hs' ∧ hs'.Perm [h, x] ∧ HeapOk Ln.ops hs' ∧ Kept (HpF bl v) w w' := by
  go_enter Try.func67, Try.ntmps67
  go_wp2
  go_loopw [1] (fun jv wr => (jv = .int .i64 1 ∧ wr = w) ∨ (jv = .int .i64 0 ∧ Hid (HpAt wr bl v [x, h] ∧ HeapOk Ln.ops [x, h] ∧ Kept (HpF bl v) w wr))) (fun jv _ => (intOf jv).toNat)
  case atStart => exact Or.inl ⟨rfl, rfl⟩
  case round =>
    rcases hrel with ⟨rfl, rfl⟩ | ⟨rfl, R⟩
    · have hl := hp_less H 1 0 x h rfl rfl
      have m1 := meth_less bl v wr H.cell
      go_wp2_with fail
      refine hl.mono ?_
      rintro e1 w1 ⟨rfl, hk1⟩
      have H1 := H.quiet hk1
      have m2 := meth_swap bl v w1 H1.cell
      clear hl m1
      by_cases hb : lessA Ln.ops x h = true
      · have hs := hp_swap H1 0 1 h x rfl rfl
        go_wp2_with fail
        refine hs.mono ?_
        rintro e2 w2 ⟨rfl, H2, hk2⟩
        have R : Hid (HpAt w2 bl v [x, h] ∧ HeapOk Ln.ops [x, h] ∧ Kept (HpF bl v) wr w2) := ⟨H2, heap_two (lessA_asymm hb), (hk1.mono (fun _ _ h => h.elim)).trans hk2 (fun _ _ h => h)⟩
        clear hs m2
        go_wp2
        go_roundw
        case rel => exact Or.inr ⟨rfl, R⟩
        case measure => simp [intOf]
      · have hb' : lessA Ln.ops x h = false := by simpa using hb
        have R : Hid (∃ hs', HpAt w1 bl v hs' ∧ hs'.Perm [h, x] ∧ HeapOk Ln.ops hs' ∧ Kept (HpF bl v) wr w1) := ⟨_, H1, List.Perm.refl _, heap_two hb', hk1.mono (fun _ _ h => h.elim)⟩
        clear m2 hb
        go_wp2
        go_end0
        exact ⟨rfl, R.out⟩
    · have R2 : Hid (∃ hs', HpAt wr bl v hs' ∧ hs'.Perm [h, x] ∧ HeapOk Ln.ops hs' ∧ Kept (HpF bl v) w wr) := ⟨_, R.out.1, List.Perm.swap _ _ _, R.out.2.1, R.out.2.2⟩
      clear R
      go_wp2
      go_end0
      exact ⟨rfl, R2.out⟩
set_option maxHeartbeats 1000000 in
set_option maxRecDepth 100000 in
theorem hp_up2 {w : World} {bl : Nat} {v : Value} {h a x : Ln} (H : HpAt w bl v [h, a, x]) (hh : HeapOk Ln.ops [h, a]) :
    Calls Try.prog 67 #[.iface 108 (.pointer (some ⟨bl, 0, none⟩)), .int .i64 2] w fun e' w' => e' = .returned (.tuple #[]) ∧ ∃ hs', HpAt w' bl v hs' ∧ hs'.Perm [h, a, x] ∧ HeapOk Ln.ops hs' ∧ Kept (HpF bl v) w w' := by
  go_enter Try.func67, Try.ntmps67
  go_wp2
  go_loopw [1] (fun jv wr => (jv = .int .i64 2 ∧ wr = w) ∨ (jv = .int .i64 0 ∧ Hid (HpAt wr bl v [x, a, h] ∧ HeapOk Ln.ops [x, a, h] ∧ Kept (HpF bl v) w wr))) (fun jv _ => (intOf jv).toNat)
  case atStart => exact Or.inl ⟨rfl, rfl⟩
  case round =>
    rcases hrel with ⟨rfl, rfl⟩ | ⟨rfl, R⟩
    · have hl := hp_less H 2 0 x h rfl rfl
      have m1 := meth_less bl v wr H.cell
      go_wp2_with fail
      refine hl.mono ?_
      rintro e1 w1 ⟨rfl, hk1⟩
      have H1 := H.quiet hk1
      have m2 := meth_swap bl v w1 H1.cell
      clear hl m1
      by_cases hb : lessA Ln.ops x h = true
      · have hs := hp_swap H1 0 2 h x rfl rfl
        go_wp2_with fail
        refine hs.mono ?_
        rintro e2 w2 ⟨rfl, H2, hk2⟩
        have R : Hid (HpAt w2 bl v [x, a, h] ∧ HeapOk Ln.ops [x, a, h] ∧ Kept (HpF bl v) wr w2) := ⟨H2, heap_up (t := [a]) hh hb, (hk1.mono (fun _ _ h => h.elim)).trans hk2 (fun _ _ h => h)⟩
        clear hs m2
        go_wp2
        go_roundw
        case rel => exact Or.inr ⟨rfl, R⟩
        case measure => simp [intOf]
      · have hb' : lessA Ln.ops x h = false := by simpa using hb
        have R : Hid (∃ hs', HpAt w1 bl v hs' ∧ hs'.Perm [h, a, x] ∧ HeapOk Ln.ops hs' ∧ Kept (HpF bl v) wr w1) := ⟨_, H1, List.Perm.refl _, heap_stays (t := [a]) hh hb', hk1.mono (fun _ _ h => h.elim)⟩
        clear m2 hb
        go_wp2
        go_end0
        exact ⟨rfl, R.out⟩
    · have hp : [x, a, h].Perm [h, a, x] := (List.reverse_perm [h, a, x])
      have R2 : Hid (∃ hs', HpAt wr bl v hs' ∧ hs'.Perm [h, a, x] ∧ HeapOk Ln.ops hs' ∧ Kept (HpF bl v) w wr) := ⟨_, R.out.1, hp, R.out.2.1, R.out.2.2⟩
      clear R hp
      go_wp2
      go_end0
      exact ⟨rfl, R2.out⟩
set_option maxHeartbeats 1000000 in
set_option maxRecDepth 100000 in
theorem hp_down1 (h : Value) (n : Nat) (hn : n ≤ 1) (w : World) : Calls Try.prog 80 #[h, .int .i64 0, .int .i64 n] w fun e' w' => e' = .returned (.bool false) ∧ w' = w := by
  have h1 : (n : Int) ≤ 1 := by omega
  go_enter Try.func80, Try.ntmps80
  go_wp2
  go_loopw [7] (fun jv wr => jv = .int .i64 0 ∧ wr = w) (fun _ _ => 0)
  case atStart => exact ⟨rfl, rfl⟩
  case round =>
    obtain ⟨rfl, rfl⟩ := hrel
    go_wp2
    go_ret
    exact ⟨rfl, rfl⟩
set_option maxHeartbeats 1000000 in
set_option maxRecDepth 100000 in
theorem hp_down2 {w : World} {bl : Nat} {v : Value} {h a : Ln} {B : List Ln} (H : HpAt w bl v ([h, a] ++ B)) :
    Calls Try.prog 80 #[.iface 108 (.pointer (some ⟨bl, 0, none⟩)), .int .i64 0, .int .i64 2] w fun e' w' => ∃ r, e' = .returned (.bool r) ∧ ∃ A', HpAt w' bl v (A' ++ B) ∧ A'.Perm [h, a] ∧ HeapOk Ln.ops A' ∧ Kept (HpF bl v) w w' := by
  go_enter Try.func80, Try.ntmps80
  go_wp2
  go_loopw [7] (fun jv wr => (jv = .int .i64 0 ∧ wr = w) ∨ (jv = .int .i64 1 ∧ Hid (∃ A', HpAt wr bl v (A' ++ B) ∧ A'.Perm [h, a] ∧ HeapOk Ln.ops A' ∧ Kept (HpF bl v) w wr))) (fun jv _ => 1 - (intOf jv).toNat)
  case atStart => exact Or.inl ⟨rfl, rfl⟩
  case round =>
    rcases hrel with ⟨rfl, rfl⟩ | ⟨rfl, R⟩
    · have hl := hp_less H 1 0 a h rfl rfl
      have m1 := meth_less bl v wr H.cell
      go_wp2_with fail
      refine hl.mono ?_
      rintro e1 w1 ⟨rfl, hk1⟩
      have H1 := H.quiet hk1
      have m2 := meth_swap bl v w1 H1.cell
      clear hl m1
      by_cases hb : lessA Ln.ops a h = true
      · have hs := hp_swap H1 0 1 h a rfl rfl
        go_wp2_with fail
        refine hs.mono ?_
        rintro e2 w2 ⟨rfl, H2, hk2⟩
        have R : Hid (∃ A', HpAt w2 bl v (A' ++ B) ∧ A'.Perm [h, a] ∧ HeapOk Ln.ops A' ∧ Kept (HpF bl v) wr w2) := ⟨[a, h], H2, List.Perm.swap _ _ _, heap_two (lessA_asymm hb), (hk1.mono (fun _ _ h => h.elim)).trans hk2 (fun _ _ h => h)⟩
        clear hs m2
        go_wp2
        go_roundw
        case rel => exact Or.inr ⟨rfl, R⟩
        case measure => simp [intOf]
      · have hb' : lessA Ln.ops a h = false := by simpa using hb
        have R : Hid (∃ A', HpAt w1 bl v (A' ++ B) ∧ A'.Perm [h, a] ∧ HeapOk Ln.ops A' ∧ Kept (HpF bl v) wr w1) := ⟨_, H1, List.Perm.refl _, heap_two hb', hk1.mono (fun _ _ h => h.elim)⟩
        clear m2 hb
        go_wp2
        go_ret
        exact ⟨_, rfl, R.out⟩
    · go_wp2
      go_ret
      exact ⟨_, rfl, R.out⟩
set_option maxHeartbeats 2000000 in
set_option maxRecDepth 100000 in
theorem hp_down3 {w : World} {bl : Nat} {v : Value} {h a b : Ln} {B : List Ln} (H : HpAt w bl v ([h, a, b] ++ B)) :
    Calls Try.prog 80 #[.iface 108 (.pointer (some ⟨bl, 0, none⟩)), .int .i64 0, .int .i64 3] w fun e' w' => ∃ r, e' = .returned (.bool r) ∧ ∃ A', HpAt w' bl v (A' ++ B) ∧ A'.Perm [h, a, b] ∧ HeapOk Ln.ops A' ∧ Kept (HpF bl v) w w' := by
  have nh := Ln.ops_ne (H.lines h (by simp))
  have na := Ln.ops_ne (H.lines a (by simp))
  have nb := Ln.ops_ne (H.lines b (by simp))
  go_enter Try.func80, Try.ntmps80
  go_wp2
  go_loopw [7] (fun jv wr => (jv = .int .i64 0 ∧ wr = w) ∨ (∃ q : Nat, (q = 1 ∨ q = 2) ∧ jv = .int .i64 q ∧ Hid (∃ A', HpAt wr bl v (A' ++ B) ∧ A'.Perm [h, a, b] ∧ HeapOk Ln.ops A' ∧ Kept (HpF bl v) w wr))) (fun jv _ => 1 - (intOf jv).toNat)
  case atStart => exact Or.inl ⟨rfl, rfl⟩
  case round =>
    rcases hrel with ⟨rfl, rfl⟩ | ⟨q, hq, rfl, R⟩
    · have hl := hp_less H 2 1 b a rfl rfl
      have m1 := meth_less bl v wr H.cell
      go_wp2_with fail
      refine hl.mono ?_
      rintro e1 w1 ⟨rfl, hk1⟩
      have H1 := H.quiet hk1
      have m2 := meth_less bl v w1 H1.cell
      clear hl m1
      by_cases hb : lessA Ln.ops b a = true
      · have hl2 := hp_less H1 2 0 b h rfl rfl
        go_wp2_with fail
        refine hl2.mono ?_
        rintro e2 w2 ⟨rfl, hk2⟩
        have H2 := H1.quiet hk2
        have m3 := meth_swap bl v w2 H2.cell
        clear hl2 m2
        by_cases hc : lessA Ln.ops b h = true
        · have hs := hp_swap H2 0 2 h b rfl rfl
          go_wp2_with fail
          refine hs.mono ?_
          rintro e3 w3 ⟨rfl, H3, hk3⟩
          have R : Hid (∃ A', HpAt w3 bl v (A' ++ B) ∧ A'.Perm [h, a, b] ∧ HeapOk Ln.ops A' ∧ Kept (HpF bl v) wr w3) := ⟨[b, a, h], H3, List.reverse_perm [h, a, b], heap_three (lessA_asymm hb) (lessA_asymm hc), ((hk1.trans' hk2).mono (fun _ _ h => h.elim)).trans hk3 (fun _ _ h => h)⟩
          clear hs m3
          go_wp2
          go_roundw
          case rel => exact Or.inr ⟨2, Or.inr rfl, rfl, R⟩
          case measure => simp [intOf]
        · have hc' : lessA Ln.ops b h = false := by simpa using hc
          have hd : lessA Ln.ops a h = false := by
            cases hd : lessA Ln.ops a h with
            | false => rfl
            | true => rw [lessA_trans hb hd] at hc'; cases hc'
          have R : Hid (∃ A', HpAt w2 bl v (A' ++ B) ∧ A'.Perm [h, a, b] ∧ HeapOk Ln.ops A' ∧ Kept (HpF bl v) wr w2) := ⟨_, H2, List.Perm.refl _, heap_three hd hc', (hk1.trans' hk2).mono (fun _ _ h => h.elim)⟩
          clear m3 hc hd
          go_wp2
          go_ret
          exact ⟨_, rfl, R.out⟩
      · have hb' : lessA Ln.ops b a = false := by simpa using hb
        have hl2 := hp_less H1 1 0 a h rfl rfl
        clear hb
        go_wp2_with fail
        refine hl2.mono ?_
        rintro e2 w2 ⟨rfl, hk2⟩
        have H2 := H1.quiet hk2
        have m3 := meth_swap bl v w2 H2.cell
        clear hl2 m2
        by_cases hc : lessA Ln.ops a h = true
        · have hs := hp_swap H2 0 1 h a rfl rfl
          go_wp2_with fail
          refine hs.mono ?_
          rintro e3 w3 ⟨rfl, H3, hk3⟩
          have R : Hid (∃ A', HpAt w3 bl v (A' ++ B) ∧ A'.Perm [h, a, b] ∧ HeapOk Ln.ops A' ∧ Kept (HpF bl v) wr w3) := ⟨[a, h, b], H3, List.Perm.swap _ _ _, heap_three (lessA_asymm hc) hb', ((hk1.trans' hk2).mono (fun _ _ h => h.elim)).trans hk3 (fun _ _ h => h)⟩
          clear hs m3
          go_wp2
          go_roundw
          case rel => exact Or.inr ⟨1, Or.inl rfl, rfl, R⟩
          case measure => simp [intOf]
        · have hc' : lessA Ln.ops a h = false := by simpa using hc
          have R : Hid (∃ A', HpAt w2 bl v (A' ++ B) ∧ A'.Perm [h, a, b] ∧ HeapOk Ln.ops A' ∧ Kept (HpF bl v) wr w2) := ⟨_, H2, List.Perm.refl _, heap_three hc' (lessA_neg nb na nh hb' hc'), (hk1.trans' hk2).mono (fun _ _ h => h.elim)⟩
          clear m3 hc
          go_wp2
          go_ret
          exact ⟨_, rfl, R.out⟩
    · rcases hq with rfl | rfl
      · go_wp2
        go_ret
        exact ⟨_, rfl, R.out⟩
      · go_wp2
        go_ret
        exact ⟨_, rfl, R.out⟩
/-- The first of n (at most three) lines goes down. -/
theorem hp_down {w : World} {bl : Nat} {v : Value} {A B : List Ln} (H : HpAt w bl v (A ++ B)) (hA : A.length ≤ 3) :
    Calls Try.prog 80 #[.iface 108 (.pointer (some ⟨bl, 0, none⟩)), .int .i64 0, .int .i64 A.length] w fun e' w' => ∃ r, e' = .returned (.bool r) ∧ ∃ A', HpAt w' bl v (A' ++ B) ∧ A'.Perm A ∧ HeapOk Ln.ops A' ∧ Kept (HpF bl v) w w' := by
  match A, hA with
  | [], _ =>
    refine (hp_down1 _ 0 (by decide) w).mono ?_
    rintro e' w' ⟨rfl, rfl⟩
    exact ⟨_, rfl, [], H, List.Perm.refl _, trivial, Kept.refl _ _⟩
  | [h], _ =>
    refine (hp_down1 _ 1 (by decide) w).mono ?_
    rintro e' w' ⟨rfl, rfl⟩
    exact ⟨_, rfl, [h], H, List.Perm.refl _, heap_one h, Kept.refl _ _⟩
  | [h, a], _ => exact hp_down2 H
  | [h, a, b], _ => exact hp_down3 H
  | _ :: _ :: _ :: _ :: _, h => simp at h
set_option maxHeartbeats 1000000 in
set_option maxRecDepth 100000 in
theorem hp_Push0 {w : World} {bl : Nat} {v : Value} {x : Ln} (H : HpAt w bl v ([] : List Ln)) (hx : LnAt w x) :
    Calls Try.prog 49 #[.iface 108 (.pointer (some ⟨bl, 0, none⟩)), .iface 109 x.val] w fun e' w' => e' = .returned (.tuple #[]) ∧ ∃ v' hs', HpAt w' bl v' hs' ∧ hs'.Perm (([] : List Ln) ++ [x]) ∧ HeapOk Ln.ops hs' ∧ Kept (HpF bl v) w w' ∧ ∀ b, HpF bl v' b → HpF bl v b ∨ w.heap.size ≤ b := by
  have hp := hp_push H (by simp) hx
  have m1 := meth_push (.pointer (some ⟨bl, 0, none⟩)) w
  go_enter Try.func49, Try.ntmps49
  go_wp2_with fail
  refine hp.mono ?_
  rintro e1 w1 ⟨rfl, v1, H1, hk1, hF1⟩
  clear hp m1
  have hfin : ∀ w' hs', HpAt w' bl v1 hs' → Kept (HpF bl v1) w1 w' → hs'.Perm (([] : List Ln) ++ [x]) → HeapOk Ln.ops hs' → ∃ v' hs', HpAt w' bl v' hs' ∧ hs'.Perm (([] : List Ln) ++ [x]) ∧ HeapOk Ln.ops hs' ∧ Kept (HpF bl v) w w' ∧ ∀ b, HpF bl v' b → HpF bl v b ∨ w.heap.size ≤ b := fun w' hs' h1 h2 h3 h4 => by
    refine ⟨v1, hs', h1, h3, h4, hk1.trans h2 (fun i hi hf => ?_), hF1⟩
    rcases hF1 i hf with h5 | h5
    · exact h5
    · omega
  obtain ⟨a1, c1, hv1, _, _⟩ := own_slice H1.row
  have hv2 : v1 = .slice a1 1 c1 := hv1
  clear hv1
  subst hv2
  have m2 := meth_len bl (.slice a1 1 c1) w1 H1.cell
  have hlen := lLen_any a1 1 c1
  have hu := hp_up0 (.iface 108 (.pointer (some ⟨bl, 0, none⟩))) w1
  have HF : Hid _ := hfin
  clear hfin
  go_wp2_with fail
  refine (hlen w1).mono ?_
  rintro e2 w2 ⟨rfl, hw2⟩
  rw [hw2]
  clear hw2
  go_wp2_with fail
  refine hu.mono ?_
  rintro e3 w3 ⟨rfl, hw3⟩
  rw [hw3]
  have R : Hid _ := HF.out w1 [x] H1 (Kept.refl _ _) (List.Perm.refl _) (heap_one x)
  clear hu
  go_wp2
  go_end0
  exact ⟨rfl, R.out⟩
set_option maxHeartbeats 1000000 in
set_option maxRecDepth 100000 in
theorem hp_Push1 {w : World} {bl : Nat} {v : Value} {h x : Ln} (H : HpAt w bl v [h]) (hx : LnAt w x) :
    Calls Try.prog 49 #[.iface 108 (.pointer (some ⟨bl, 0, none⟩)), .iface 109 x.val] w fun e' w' => e' = .returned (.tuple #[]) ∧ ∃ v' hs', HpAt w' bl v' hs' ∧ hs'.Perm ([h] ++ [x]) ∧ HeapOk Ln.ops hs' ∧ Kept (HpF bl v) w w' ∧ ∀ b, HpF bl v' b → HpF bl v b ∨ w.heap.size ≤ b := by
  have hp := hp_push H (by simp) hx
  have m1 := meth_push (.pointer (some ⟨bl, 0, none⟩)) w
  go_enter Try.func49, Try.ntmps49
  go_wp2_with fail
  refine hp.mono ?_
  rintro e1 w1 ⟨rfl, v1, H1, hk1, hF1⟩
  clear hp m1
  have hfin : ∀ w' hs', HpAt w' bl v1 hs' → Kept (HpF bl v1) w1 w' → hs'.Perm ([h] ++ [x]) → HeapOk Ln.ops hs' → ∃ v' hs', HpAt w' bl v' hs' ∧ hs'.Perm ([h] ++ [x]) ∧ HeapOk Ln.ops hs' ∧ Kept (HpF bl v) w w' ∧ ∀ b, HpF bl v' b → HpF bl v b ∨ w.heap.size ≤ b := fun w' hs' h1 h2 h3 h4 => by
    refine ⟨v1, hs', h1, h3, h4, hk1.trans h2 (fun i hi hf => ?_), hF1⟩
    rcases hF1 i hf with h5 | h5
    · exact h5
    · omega
  obtain ⟨a1, c1, hv1, _, _⟩ := own_slice H1.row
  have hv2 : v1 = .slice a1 2 c1 := hv1
  clear hv1
  subst hv2
  have m2 := meth_len bl (.slice a1 2 c1) w1 H1.cell
  have hlen := lLen_any a1 2 c1
  have hu := hp_up1 H1
  have HF : Hid _ := hfin
  clear hfin
  go_wp2_with fail
  refine (hlen w1).mono ?_
  rintro e2 w2 ⟨rfl, hw2⟩
  rw [hw2]
  clear hw2
  go_wp2_with fail
  refine hu.mono ?_
  rintro e3 w3 ⟨rfl, hs', h1, h2, h3, h4⟩
  have R : Hid _ := HF.out w3 hs' h1 h4 h2 h3
  clear hu
  go_wp2
  go_end0
  exact ⟨rfl, R.out⟩
set_option maxHeartbeats 1000000 in
set_option maxRecDepth 100000 in
theorem hp_Push2 {w : World} {bl : Nat} {v : Value} {h a x : Ln} (H : HpAt w bl v [h, a]) (hx : LnAt w x) (hh : HeapOk Ln.ops [h, a]) :
    Calls Try.prog 49 #[.iface 108 (.pointer (some ⟨bl, 0, none⟩)), .iface 109 x.val] w fun e' w' => e' = .returned (.tuple #[]) ∧ ∃ v' hs', HpAt w' bl v' hs' ∧ hs'.Perm ([h, a] ++ [x]) ∧ HeapOk Ln.ops hs' ∧ Kept (HpF bl v) w w' ∧ ∀ b, HpF bl v' b → HpF bl v b ∨ w.heap.size ≤ b := by
  have hp := hp_push H (by simp) hx
  have m1 := meth_push (.pointer (some ⟨bl, 0, none⟩)) w
  go_enter Try.func49, Try.ntmps49
  go_wp2_with fail
  refine hp.mono ?_
  rintro e1 w1 ⟨rfl, v1, H1, hk1, hF1⟩
  clear hp m1
  have hfin : ∀ w' hs', HpAt w' bl v1 hs' → Kept (HpF bl v1) w1 w' → hs'.Perm ([h, a] ++ [x]) → HeapOk Ln.ops hs' → ∃ v' hs', HpAt w' bl v' hs' ∧ hs'.Perm ([h, a] ++ [x]) ∧ HeapOk Ln.ops hs' ∧ Kept (HpF bl v) w w' ∧ ∀ b, HpF bl v' b → HpF bl v b ∨ w.heap.size ≤ b := fun w' hs' h1 h2 h3 h4 => by
    refine ⟨v1, hs', h1, h3, h4, hk1.trans h2 (fun i hi hf => ?_), hF1⟩
    rcases hF1 i hf with h5 | h5
    · exact h5
    · omega
  obtain ⟨a1, c1, hv1, _, _⟩ := own_slice H1.row
  have hv2 : v1 = .slice a1 3 c1 := hv1
  clear hv1
  subst hv2
  have m2 := meth_len bl (.slice a1 3 c1) w1 H1.cell
  have hlen := lLen_any a1 3 c1
  have hu := hp_up2 H1 hh
  have HF : Hid _ := hfin
  clear hfin
  go_wp2_with fail
  refine (hlen w1).mono ?_
  rintro e2 w2 ⟨rfl, hw2⟩
  rw [hw2]
  clear hw2
  go_wp2_with fail
  refine hu.mono ?_
  rintro e3 w3 ⟨rfl, hs', h1, h2, h3, h4⟩
  have R : Hid _ := HF.out w3 hs' h1 h4 h2 h3
  clear hu
  go_wp2
  go_end0
  exact ⟨rfl, R.out⟩
/-- heap.Push. -/
theorem hp_Push {w : World} {bl : Nat} {v : Value} {hs : List Ln} {x : Ln} (H : HpAt w bl v hs) (hn : hs.length ≤ 2) (hx : LnAt w x) (hh : HeapOk Ln.ops hs) :
    Calls Try.prog 49 #[.iface 108 (.pointer (some ⟨bl, 0, none⟩)), .iface 109 x.val] w fun e' w' => e' = .returned (.tuple #[]) ∧ ∃ v' hs', HpAt w' bl v' hs' ∧ hs'.Perm (hs ++ [x]) ∧ HeapOk Ln.ops hs' ∧ Kept (HpF bl v) w w' ∧ ∀ b, HpF bl v' b → HpF bl v b ∨ w.heap.size ≤ b := by
  match hs, hn, hh with
  | [], _, _ => exact hp_Push0 H hx
  | [h], _, _ => exact hp_Push1 H hx
  | [h, a], _, hh => exact hp_Push2 H hx hh
  | _ :: _ :: _ :: _, h, _ => simp at h
set_option maxHeartbeats 1000000 in
set_option maxRecDepth 100000 in
/-- heap.Fix(h, 0). -/
theorem hp_Fix {w : World} {bl : Nat} {v : Value} {hs : List Ln} (H : HpAt w bl v hs) (hn : hs.length ≤ 3) :
    Calls Try.prog 69 #[.iface 108 (.pointer (some ⟨bl, 0, none⟩)), .int .i64 0] w fun e' w' => e' = .returned (.tuple #[]) ∧ ∃ hs', HpAt w' bl v hs' ∧ hs'.Perm hs ∧ HeapOk Ln.ops hs' ∧ Kept (HpF bl v) w w' := by
  obtain ⟨a1, c1, hv1, _, _⟩ := own_slice H.row
  subst hv1
  have m1 := meth_len bl _ w H.cell
  have hlen := lLen_any a1 hs.length c1 w
  have hd := hp_down (A := hs) (B := []) (by rw [List.append_nil]; exact H) hn
  have hu := hp_up0 (.iface 108 (.pointer (some ⟨bl, 0, none⟩)))
  clear H
  go_enter Try.func69, Try.ntmps69
  go_wp2_with fail
  refine hlen.mono ?_
  rintro e1 w1 ⟨rfl, hw1⟩
  rw [hw1]
  clear hw1 m1 hlen
  go_wp2_with fail
  refine hd.mono ?_
  rintro e2 w2 ⟨r, rfl, A', h1, h2, h3, h4⟩
  rw [List.append_nil] at h1
  have R : Hid (∃ hs', HpAt w2 bl (.slice a1 hs.length c1) hs' ∧ hs'.Perm hs ∧ HeapOk Ln.ops hs' ∧ Kept (HpF bl (.slice a1 hs.length c1)) w w2) := ⟨A', h1, h2, h3, h4⟩
  clear hd h1 h2 h3 h4
  cases r with
  | true =>
    go_wp2
    go_end0
    exact ⟨rfl, R.out⟩
  | false =>
    go_wp2_with fail
    refine (hu w2).mono ?_
    rintro e3 w3 ⟨rfl, hw3⟩
    rw [hw3]
    clear hw3 hu
    go_wp2
    go_end0
    exact ⟨rfl, R.out⟩
set_option maxHeartbeats 1000000 in
set_option maxRecDepth 100000 in
/-- heap.Pop. -/
theorem hp_Pop {w : World} {bl : Nat} {v : Value} {h : Ln} {t : List Ln} (H : HpAt w bl v (h :: t)) (hn : t.length ≤ 2) :
    Calls Try.prog 68 #[.iface 108 (.pointer (some ⟨bl, 0, none⟩))] w fun e' w' => (∃ u, e' = .returned u) ∧ ∃ v' hs', HpAt w' bl v' hs' ∧ hs'.Perm t ∧ HeapOk Ln.ops hs' ∧ Kept (HpF bl v) w w' ∧ ∀ b, HpF bl v' b → HpF bl v b := by
  obtain ⟨a1, c1, hv1, _, _⟩ := own_slice H.row
  have hv2 : v = .slice a1 (t.length + 1) c1 := hv1
  clear hv1
  subst hv2
  have m1 := meth_len bl _ w H.cell
  have hlen := lLen_any a1 (t.length + 1) c1 w
  obtain ⟨l, hl⟩ : ∃ l, (h :: t)[t.length]? = some l := ⟨_, List.getElem?_eq_getElem (by simp)⟩
  have hs := hp_swap H 0 t.length h l rfl hl
  have m2 := meth_swap bl _ w H.cell
  obtain ⟨A, hA1, hA2, hA3⟩ : ∃ A : List Ln, swapL (h :: t) 0 t.length h l = A ++ [h] ∧ A.Perm t ∧ A.length = t.length := by
    match t, hl with
    | [], hl => exact ⟨[], by simp at hl; subst hl; rfl, List.Perm.refl _, rfl⟩
    | x :: t', hl =>
      rcases List.eq_nil_or_concat (x :: t') with h0 | ⟨B, y, hB⟩
      · cases h0
      · rw [List.concat_eq_append] at hB
        have hy : l = y := by
          rw [hB] at hl
          simp at hl
          exact hl.symm
        subst hy
        refine ⟨l :: B, ?_, ?_, ?_⟩
        · rw [hB]
          simp [swapL]
        · rw [hB]
          exact (List.perm_append_singleton l B).symm
        · rw [hB]; simp
  rw [hA1] at hs
  clear hA1 H
  obtain ⟨n, hnn⟩ : ∃ n, t.length = n := ⟨_, rfl⟩
  rw [hnn] at m1 hlen hs m2 hA3 hn ⊢
  have hn2 : (n : Int) ≤ 2 := by omega
  have e1 : ((n + 1 : Nat) : Int) = (n : Int) + 1 := by omega
  rw [e1] at hlen
  clear hl hnn
  go_enter Try.func68, Try.ntmps68
  go_wp2_with fail
  refine hlen.mono ?_
  rintro e1 w1 ⟨rfl, hw1⟩
  rw [hw1]
  clear hw1 m1 hlen
  go_wp2_with fail
  refine hs.mono ?_
  rintro e2 w2 ⟨rfl, H2, hk2⟩
  have hd := hp_down H2 (by omega)
  rw [hA3] at hd
  clear hs m2 H2
  go_wp2_with fail
  refine hd.mono ?_
  rintro e3 w3 ⟨r, rfl, A', h1, h2, h3, h4⟩
  have hp := hp_pop h1 (by rw [h2.length_eq, hA3]; omega)
  have m3 := meth_pop (.pointer (some ⟨bl, 0, none⟩)) w3
  clear hd h1
  go_wp2_with fail
  refine hp.mono ?_
  rintro e4 w4 ⟨rfl, v', g1, g2, g3⟩
  have R : Hid (∃ v' hs', HpAt w4 bl v' hs' ∧ hs'.Perm t ∧ HeapOk Ln.ops hs' ∧ Kept (HpF bl (.slice a1 (n + 1) c1)) w w4 ∧ ∀ b, HpF bl v' b → HpF bl (.slice a1 (n + 1) c1) b) := ⟨v', A', g1, h2.trans hA2, h3, (hk2.trans h4 (fun _ _ h => h)).trans g2 (fun _ _ h => h), g3⟩
  clear hp m3 g1 g2 g3 h2 h3 h4
  go_wp2
  go_ret
  exact ⟨⟨_, rfl⟩, R.out⟩
/-- A line without its next one. -/
def Ln.next (l : Ln) : Ln := ⟨l.g, l.off + 8, l.cap - 1, l.ms.tail⟩
theorem LnAt.next {w : World} {l : Ln} (h : LnAt w l) (h2 : 2 ≤ l.ms.length) : LnAt w l.next := by
  obtain ⟨cur, a, b⟩ := h.at_
  refine ⟨fun e => ?_, ?_, cur, a, fun i m hi j u hu => ?_⟩
  · have : l.ms.tail.length = 0 := by
      have e' : l.ms.tail = [] := e
      rw [e']; rfl
    rw [List.length_tail] at this
    omega
  · show l.ms.tail.length ≤ l.cap - 1
    have := h.room
    rw [List.length_tail]
    omega
  · have hi' : l.ms[i + 1]? = some m := by
      have h3 : l.ms.tail[i]? = some m := hi
      rw [List.getElem?_tail] at h3
      exact h3
    have := b (i + 1) m hi' j u hu
    show cur[l.off + 8 + i * 8 + j]? = some u
    rw [show l.off + 8 + i * 8 + j = l.off + (i + 1) * 8 + j by omega]
    exact this
set_option maxHeartbeats 1000000 in
set_option maxRecDepth 100000 in
theorem takeFirst_any {w : World} {bl : Nat} {v : Value} {h : Ln} {t : List Ln} (H : HpAt w bl v (h :: t)) (hn : t.length ≤ 2) (hcap : h.cap ≤ 9223372036854775807) :
    Calls Try.prog 50 #[.pointer (some ⟨bl, 0, none⟩)] w fun e' w' => e' = .returned (.tuple #[]) ∧ ∃ v' hs', HpAt w' bl v' hs' ∧ ((h.ms.length = 1 ∧ hs'.Perm t) ∨ (2 ≤ h.ms.length ∧ hs'.Perm (h.next :: t))) ∧ HeapOk Ln.ops hs' ∧ Kept (HpF bl v) w w' ∧ (∀ b, HpF bl v' b → HpF bl v b) := by
  obtain ⟨g, cap, cur, hv, hg, hgl, hc⟩ := H.block (by simp)
  have hv2 : v = .slice (some ⟨g, 0, none⟩) (t.length + 1) cap := hv
  clear hv
  subst hv2
  have c0 := H.cell
  have z0 := lt_of_heap H.box
  have ch : w.cell? ⟨g, 0, none⟩ = some (.slice (some ⟨h.g, h.off, none⟩) h.ms.length h.cap) := by rw [Lib.cell_of_heap hg]; exact hc 0 h rfl
  have zg := lt_of_heap hg
  have hL := H.lines h (by simp)
  have hroom := hL.room
  have hlt : (0 : Int) < ((t.length + 1 : Nat) : Int) := by omega
  have hlt2 : (0 : Int) < (t.length : Int) + 1 := by omega
  by_cases h1 : h.ms.length = 1
  · have hp := hp_Pop H hn
    rw [h1] at ch
    clear H hL hg hc
    go_enter Try.func50, Try.ntmps50
    go_wp2_with fail
    refine hp.mono ?_
    rintro e1 w1 ⟨⟨u, rfl⟩, v', hs', a1, a2, a3, a4, a5⟩
    have R : Hid (∃ v' hs', HpAt w1 bl v' hs' ∧ ((h.ms.length = 1 ∧ hs'.Perm t) ∨ (2 ≤ h.ms.length ∧ hs'.Perm (h.next :: t))) ∧ HeapOk Ln.ops hs' ∧ Kept (HpF bl (.slice (some ⟨g, 0, none⟩) (t.length + 1) cap)) w w1 ∧ (∀ b, HpF bl v' b → HpF bl (.slice (some ⟨g, 0, none⟩) (t.length + 1) cap) b)) := ⟨v', hs', a1, Or.inl ⟨h1, a2⟩, a3, a4, a5⟩
    clear hp a1 a2 a3 a4 a5
    go_wp2
    refine bodyPost_ret (results_none (by rfl) _ _ _) rfl ?_
    exact ⟨rfl, R.out⟩
  · have h2 : 2 ≤ h.ms.length := by
      have := List.length_pos_iff.2 hL.ne
      omega
    have Hd := H.quiet ((Kept.refl _ w).drew)
    obtain ⟨H1, k1⟩ := hp_set Hd 0 (by simp) h.next ((hL.next h2).keep ((Kept.refl (fun _ => False) w).drew) (fun h => h))
    have hnv : h.next.val = .slice (some ⟨h.g, h.off + 8, none⟩) (h.ms.length - 1) (h.cap - 1) := by
      show Value.slice _ h.ms.tail.length _ = _
      rw [List.length_tail]
      rfl
    rw [hnv] at H1 k1
    have hf := hp_Fix H1 (by simp; omega)
    have fz : ∀ j, w.frozen? ⟨g, j, none⟩ = false := Lib.frozen_of_heap hg
    have H2 : Hid (2 ≤ h.ms.length) := h2
    have HK : Hid (Kept (HpF bl (.slice (some ⟨g, 0, none⟩) (t.length + 1) cap)) w (w.drew.setCell ⟨g, 0, none⟩ (.slice (some ⟨h.g, h.off + 8, none⟩) (h.ms.length - 1) (h.cap - 1)))) := (((Kept.refl (fun _ => False) w).drew).mono (fun _ _ h => h.elim)).trans k1 (fun b _ e => by subst e; exact Or.inr rfl)
    obtain ⟨m, hm⟩ : ∃ m, h.ms.length = m := ⟨_, rfl⟩
    have HM : Hid (h.ms.length = m) := hm
    rw [hm] at ch h2 h1 hroom hf HK
    have h2i : (1 : Int) ≤ (m : Int) := by omega
    have h1i : ¬ (m : Int) = 1 := by omega
    have h1b : ((m : Int) == 1) = false := by rw [beq_eq_false_iff_ne]; exact h1i
    have hmc : (m : Int) ≤ (h.cap : Int) := by omega
    have hc1 : ¬ h.cap = 1 := by omega
    have hc2 : ¬ h.cap - 1 = 0 := by omega
    clear H hL hg hc Hd H1 k1 hnv hm
    go_enter Try.func50, Try.ntmps50
    go_wp2_with fail
    refine wp_region_three 9 2 (by kernel_rfl) (by kernel_rfl) ?_
    simp only [List.take_succ_cons, List.take_zero, List.drop_succ_cons, List.drop_zero]
    change wpStill _ _ (World.drew _) _ _ _
    repeat still_step
    refine wpStill_nil ?_
    go_wp2_with fail
    change wpStill _ _ _ _ _ _
    refine wpStill_nil ?_
    go_wp2_with fail
    refine hf.mono ?_
    rintro e1 w1 ⟨rfl, hs', a1, a2, a3, a4⟩
    have R : Hid (∃ v' hs', HpAt w1 bl v' hs' ∧ ((h.ms.length = 1 ∧ hs'.Perm t) ∨ (2 ≤ h.ms.length ∧ hs'.Perm (h.next :: t))) ∧ HeapOk Ln.ops hs' ∧ Kept (HpF bl (.slice (some ⟨g, 0, none⟩) (t.length + 1) cap)) w w1 ∧ (∀ b, HpF bl v' b → HpF bl (.slice (some ⟨g, 0, none⟩) (t.length + 1) cap) b)) := ⟨_, hs', a1, Or.inr ⟨H2.out, a2⟩, a3, HK.out.trans a4 (fun _ _ h => h), fun b hb => hb⟩
    clear hf a1 a2 a3 a4
    go_wp2
    all_goals first
      | (go_ret; exact ⟨rfl, R.out⟩)
      | (go_end0; exact ⟨rfl, R.out⟩)
def vlen : Value → Nat
  | .slice _ n _ => n
  | _ => 0
/-- What a line is made of: operations of the log. -/
def LnOf (N : Nat) (K : Log) (l : Ln) : Prop := (l.g < N ∧ l.cap ≤ 9223372036854775807 ∧ l.ms.length < 4294967296) ∧ ∀ m ∈ l.ms, ∃ r ∈ K.ms, m ∈ r
theorem LnOf.next {N : Nat} {K : Log} {l : Ln} (h : LnOf N K l) : LnOf N K l.next := ⟨⟨h.1.1, by show l.cap - 1 ≤ _; have := h.1.2.1; omega, by show l.ms.tail.length < _; rw [List.length_tail]; have := h.1.2.2; omega⟩, fun m hm => h.2 m (List.mem_of_mem_tail hm)⟩
/-- While the lines are being laid: k peers were looked at. -/
structure AbvA (w wr : World) (bl : Nat) (K : Log) (qs : List Nat) (k : Nat) (v : Value) (hs : List Ln) : Prop where
  hp : HpAt wr bl v hs
  ok : HeapOk Ln.ops hs
  perm : (hs.map Ln.ops).Perm (((above qs (K.ms.map (List.map MOp.o))).take k).filter fun l => !l.isEmpty)
  len : hs.length ≤ k
  of : ∀ l ∈ hs, LnOf w.heap.size K l
  new : ∀ b, HpF bl v b → w.heap.size ≤ b
  kept : Kept (fun _ => False) w wr
theorem above_at (qs : List Nat) (log : List (List Ope)) (k : Nat) (l : List Ope) (q : Nat) (hl : log[k]? = some l) (hq : qs[k]? = some q) : (above qs log).take (k + 1) = (above qs log).take k ++ [l.drop q] := by
  have hk := (List.getElem?_eq_some_iff.1 hl).1
  have h1 : k < (above qs log).length := by simp [above]; exact hk
  have h2 : (above qs log)[k] = l.drop q := by
    simp only [above, List.getElem_map, List.getElem_range, List.getD_eq_getElem?_getD, hl, hq, Option.getD_some]
  rw [List.take_succ_eq_append_getElem h1, h2]
/-- While they are being merged. -/
structure AbvB (w wr : World) (bl : Nat) (K : Log) (ls0 : List (List Ope)) (T : Nat) (v mv : Value) (hs : List Ln) (mg : List MOp) (ls : List (List Ope)) : Prop where
  hp : HpAt wr bl v hs
  ok : HeapOk Ln.ops hs
  perm : (hs.map Ln.ops).Perm (ls.filter fun l => !l.isEmpty)
  merged : ∀ r, Merged ls r → Merged ls0 (mg.map MOp.o ++ r)
  row : wr.ownsRow 0 80 8 mv mg.length (opsCells mg)
  len : hs.length ≤ 3
  of : ∀ l ∈ hs, LnOf w.heap.size K l
  mof : ∀ m ∈ mg, ∃ r ∈ K.ms, m ∈ r
  total : mg.length + (hs.map fun l => l.ms.length).sum = T
  new : ∀ b, HpF bl v b → w.heap.size ≤ b
  mnew : ∀ b, mv.ownBlock = some b → w.heap.size ≤ b
  kept : Kept (fun _ => False) w wr
theorem sum_perm {a b : List Nat} (h : a.Perm b) : a.sum = b.sum := by
  induction h with
  | nil => rfl
  | cons x _ ih => simp [ih]
  | swap x y l => simp; omega
  | trans _ _ ih1 ih2 => exact ih1.trans ih2
set_option maxHeartbeats 2000000 in
set_option maxRecDepth 100000 in
theorem above_any (b o c : Nat) (K : Log) (kn qs : List Nat) (gq cq : Nat) (w : World) (h0 : w.cell? ⟨b, o, none⟩ = some (.slice (some ⟨K.b, 0, none⟩) kn.length c)) (h : LogAt w K kn) (hn : kn.length ≤ 3) (hql : qs.length = kn.length)
    (hq : ∀ (i n : Nat), qs[i]? = some n → w.cell? ⟨gq, i, none⟩ = some (.int .i64 (n : Int))) (hqb : ∀ n ∈ qs, n < 4294967296) (hkb : ∀ n ∈ kn, n < 4294967296) :
    Calls Try.prog 37 #[.pointer (some ⟨b, o, none⟩), .slice (some ⟨gq, 0, none⟩) qs.length cq] w fun e' w' => ∃ v ms, e' = .returned v ∧ w'.ownsRow 0 80 8 v ms.length (opsCells ms) ∧ Merged (above qs (K.ms.map (List.map MOp.o))) (ms.map MOp.o) ∧ (∀ m ∈ ms, ∃ r ∈ K.ms, m ∈ r) ∧ Kept (fun _ => False) w w' ∧ (∀ b, v.ownBlock = some b → w.heap.size ≤ b) ∧ ms.length ≤ 3 * 4294967296 := by
  have hbw := World.block_lt_of_cell? w _ h0
  have hKb := lt_of_heap h.block
  have hlv := h.lenV
  have hlm := h.lenM
  go_enter Try.func37, Try.ntmps37
  go_wp2
  have A0 : Hid (∃ v hs, AbvA w (w.alloc (.cells #[.slice none 0 0] 106)) w.heap.size K qs 0 v hs) := by
    refine ⟨.slice none 0 0, [], ⟨heap_alloc_new w _, World.ownsRow_nil _ _ _ _, fun l hl => (by cases hl)⟩, trivial, by simp, Nat.le_refl _, fun l hl => (by cases hl), ?_, (Kept.refl _ w).alloc _⟩
    rintro b (rfl | hb)
    · exact Nat.le_refl _
    · simp [Value.ownBlock] at hb
  go_loopw [14] (fun iv wr => ∃ k : Nat, k ≤ kn.length ∧ iv = .int .i64 k ∧ Hid (∃ v hs, AbvA w wr w.heap.size K qs k v hs)) (fun iv _ => kn.length - (intOf iv).toNat)
  case atStart => exact ⟨0, Nat.zero_le _, rfl, A0⟩
  case round =>
    clear A0
    obtain ⟨k, hk, rfl, R⟩ := hrel
    obtain ⟨v, hs, R⟩ := R.out
    by_cases hlt : k < kn.length
    · have hlt2 : (k : Int) < (kn.length : Int) := by omega
      have hlt4 : (k : Int) < (qs.length : Int) := by omega
      obtain ⟨u, l, hu, hl, hll, hrow, hcell⟩ := h.one (p := k) (List.getElem?_eq_getElem hlt)
      obtain ⟨q, hqk⟩ : ∃ q, qs[k]? = some q := ⟨_, List.getElem?_eq_getElem (by omega)⟩
      have cK := R.kept.cell' hcell (fun h => h)
      have cQ := R.kept.cell' (hq k q hqk) (fun h => h)
      have zK := World.block_lt_of_cell? wr _ cK
      have zQ := World.block_lt_of_cell? wr _ cQ
      have hqlt := hqb q (List.mem_of_getElem? hqk)
      have hnl := hkb _ (List.getElem_mem hlt)
      rw [← hll] at hrow hnl
      have hlo : (K.ms.map (List.map MOp.o))[k]? = some (l.map MOp.o) := by rw [List.getElem?_map, hl]; rfl
      have hab := above_at qs _ k _ q hlo hqk
      obtain ⟨ua, uc, hue, hu1, hu2⟩ := own_slice hrow
      by_cases hql2 : q < l.length
      · have hql3 : (q : Int) < (l.length : Int) := by omega
        have hql4 : (q : Int) ≤ (l.length : Int) := by omega
        obtain ⟨g, cap, cur, hv2, hg, hcap, hmax, hsz, htk⟩ : ∃ g cap cur, u = .slice (some ⟨g, 0, none⟩) l.length cap ∧ w.heap[g]? = some (.cells cur 80 (0, 0)) ∧ l.length ≤ cap ∧ cap ≤ maxLen ∧ cur.size = cap * 8 ∧ cur.toList.take (l.length * 8) = opsCells l := by
          rcases hrow.2 with ⟨_, h0⟩ | ⟨g, cap, cur, e1, _, e3, e4, e5, e6, e7⟩
          · omega
          · exact ⟨g, cap, cur, e1, e3, e4, e5, e6, e7⟩
        subst hv2
        have hx : LnAt wr ⟨g, q * 8, cap - q, l.drop q⟩ := by
          refine ⟨fun e => ?_, ?_, cur, R.kept.heap hg (fun h => h), fun i m hi j u hu => ?_⟩
          · have e' : l.drop q = [] := e
            rw [List.drop_eq_nil_iff] at e'
            omega
          · show (l.drop q).length ≤ cap - q
            rw [List.length_drop]; omega
          · have hi' : l[q + i]? = some m := by
              have h3 : (l.drop q)[i]? = some m := hi
              rw [List.getElem?_drop] at h3
              exact h3
            have hj8 : j < 8 := by
              have := (List.getElem?_eq_some_iff.1 hu).1
              simpa [MOp.cells] using this
            have h4 := opsCells_at l (q + i) m hi' j hj8
            rw [hu, ← htk, List.getElem?_take] at h4
            split at h4
            · show cur[q * 8 + i * 8 + j]? = some u
              rw [← Array.getElem?_toList, show q * 8 + i * 8 + j = (q + i) * 8 + j by omega]
              exact h4
            · cases h4
        have hp := hp_Push R.hp (by have := R.len; omega) hx R.ok
        have hxv : (Ln.val ⟨g, q * 8, cap - q, l.drop q⟩) = .slice (some ⟨g, q * 8, none⟩) (l.length - q) (cap - q) := by
          show Value.slice _ (l.drop q).length _ = _
          rw [List.length_drop]
        rw [hxv] at hp
        have hq8 : (q : Int) ≤ (cap : Int) := by omega
        have hmx : cap ≤ 9223372036854775807 := by unfold maxLen at hmax; omega
        have HR : Hid _ := R
        have HX : Hid (hs.length ≤ k ∧ l.drop q ≠ [] ∧ l ∈ K.ms) := ⟨R.len, hx.ne, List.mem_of_getElem? hl⟩
        have hpm : Hid (∀ (w' : World) (v' : Value) (hs' : List Ln), HpAt w' w.heap.size v' hs' → hs'.Perm (hs ++ [⟨g, q * 8, cap - q, l.drop q⟩]) → HeapOk Ln.ops hs' → Kept (HpF w.heap.size v) wr w' → (∀ b, HpF w.heap.size v' b → HpF w.heap.size v b ∨ wr.heap.size ≤ b) → ∃ v hs, AbvA w w' w.heap.size K qs (k + 1) v hs) := by
          intro w' v' hs' a1 a2 a3 a4 a5
          refine ⟨v', hs', a1, a3, ?_, ?_, ?_, ?_, ?_⟩
          · rw [hab, List.filter_append]
            refine (a2.map Ln.ops).trans ?_
            rw [List.map_append]
            refine List.Perm.append R.perm ?_
            have hne : ¬ (l.map MOp.o).drop q = [] := by
              rw [List.drop_eq_nil_iff, List.length_map]; omega
            have : ([(l.map MOp.o).drop q].filter fun l => !l.isEmpty) = [(l.map MOp.o).drop q] := by
              rw [List.filter_cons_of_pos (by simpa using hne)]; rfl
            rw [this]
            show List.Perm [(l.drop q).map MOp.o] _
            rw [List.map_drop]
          · rw [a2.length_eq, List.length_append]
            have := R.len
            simp
            omega
          · intro y hy
            rcases List.mem_append.1 (a2.mem_iff.1 hy) with h1 | h1
            · exact R.of y h1
            · rw [List.mem_singleton.1 h1]
              exact ⟨⟨lt_of_heap hg, by show cap - q ≤ _; omega, by show (l.drop q).length < _; rw [List.length_drop]; omega⟩, fun m hm => ⟨l, List.mem_of_getElem? hl, List.mem_of_mem_drop hm⟩⟩
          · intro y hy
            rcases a5 y hy with h1 | h1
            · exact R.new y h1
            · exact Nat.le_trans R.kept.size h1
          · exact R.kept.trans a4 (fun i hi hf => by have := R.new i hf; omega)
        clear hx R hab hlo hg htk hsz hmax hrow hu hl hxv HR HX hue hll hu1 hu2 hcell
        go_wp2_with fail
        refine hp.mono ?_
        rintro e1 w1 ⟨rfl, v', hs', a1, a2, a3, a4, a5⟩
        have R2 : Hid _ := hpm.out w1 v' hs' a1 a2 a3 a4 a5
        clear hp hpm a1 a2 a3 a4 a5
        go_wp2
        go_roundw
        case rel => exact ⟨k + 1, by omega, by go_num, R2⟩
        case measure => simp [intOf]; omega
      · have hql3 : ¬ (q : Int) < (l.length : Int) := by omega
        have hql4 : decide ((q : Int) < (l.length : Int)) = false := by rw [decide_eq_false_iff_not]; exact hql3
        have R2 : Hid (∃ v hs, AbvA w wr w.heap.size K qs (k + 1) v hs) := by
          refine ⟨v, hs, R.hp, R.ok, ?_, by have := R.len; omega, R.of, R.new, R.kept⟩
          rw [hab, List.filter_append]
          have : ([(l.map MOp.o).drop q].filter fun l => !l.isEmpty) = [] := by
            have h1 : (l.map MOp.o).drop q = [] := by rw [List.drop_eq_nil_iff, List.length_map]; omega
            rw [h1]; rfl
          rw [this, List.append_nil]
          exact R.perm
        subst hue
        clear R hab hlo hrow hu hl hll hcell
        go_wp2
        go_roundw
        case rel => exact ⟨k + 1, by omega, by go_num, R2⟩
        case measure => simp [intOf]; omega
    · have hlt2 : ¬ (k : Int) < (kn.length : Int) := by omega
      have hlt3 : decide ((k : Int) < (kn.length : Int)) = false := by rw [decide_eq_false_iff_not]; exact hlt2
      have hke : k = kn.length := by omega
      have hB : Hid (∃ v hs mg ls, AbvB w wr w.heap.size K (above qs (K.ms.map (List.map MOp.o))) ((hs.map fun l => l.ms.length).sum) v (.slice none 0 0) hs mg ls ∧ mg = []) := by
        refine ⟨v, hs, [], above qs (K.ms.map (List.map MOp.o)), ⟨R.hp, R.ok, ?_, fun r hr => hr, World.ownsRow_nil _ _ _ _, by have := R.len; omega, R.of, fun m hm => (by cases hm), by simp, R.new, fun b hb => (by simp [Value.ownBlock] at hb), R.kept⟩, rfl⟩
        have := R.perm
        rw [List.take_of_length_le (by simp [above]; omega)] at this
        exact this
      obtain ⟨v2, hs2, mg2, ls2, hB2, _⟩ := hB.out
      have hTb : (hs2.map fun l => l.ms.length).sum ≤ 3 * 4294967296 := by
        have key : ∀ l : List Ln, (∀ y ∈ l, y.ms.length < 4294967296) → (l.map fun l => l.ms.length).sum ≤ l.length * 4294967296 := by
          intro l
          induction l with
          | nil => intro _; simp
          | cons y r ih =>
            intro hy
            have h1 := hy y (by simp)
            have h2 := ih (fun z hz => hy z (by simp [hz]))
            simp only [List.map_cons, List.sum_cons, List.length_cons]
            omega
        have h1 := key hs2 (fun y hy => (hB2.of y hy).1.2.2)
        have h2 := hB2.len
        exact Nat.le_trans h1 (Nat.mul_le_mul_right _ h2)
      obtain ⟨T, hT⟩ : ∃ T, (hs2.map fun l => l.ms.length).sum = T := ⟨_, rfl⟩
      rw [hT] at hB2 hTb
      have HB : Hid (∃ hs mg ls v, AbvB w wr w.heap.size K (above qs (K.ms.map (List.map MOp.o))) T v (.slice none 0 0) hs mg ls) := ⟨hs2, mg2, ls2, v2, hB2⟩
      clear hB hB2 hT R h hq hqb hkb
      go_wp2
      go_loopw [8] (fun mv wr => Hid (∃ hs mg ls v, AbvB w wr w.heap.size K (above qs (K.ms.map (List.map MOp.o))) T v mv hs mg ls)) (fun mv _ => T - vlen mv)
      case atStart => exact HB
      case round =>
        clear HB
        obtain ⟨hs, mg, ls, v, R⟩ := hrel.out
        clear hrel
        obtain ⟨va, vc, hve, _, _⟩ := own_slice R.hp.row
        obtain ⟨ma, mc, hme, _, _⟩ := own_slice R.row
        subst hme
        have c5 := R.hp.cell
        have z5 := lt_of_heap R.hp.box
        cases hs with
        | nil =>
          have hve2 : v = .slice va 0 vc := hve
          clear hve
          subst hve2
          have hfin : Hid (∃ v ms, Value.slice ma mg.length mc = v ∧ wr.ownsRow 0 80 8 v ms.length (opsCells ms) ∧ Merged (above qs (K.ms.map (List.map MOp.o))) (ms.map MOp.o) ∧ (∀ m ∈ ms, ∃ r ∈ K.ms, m ∈ r) ∧ Kept (fun _ => False) w wr ∧ (∀ b, v.ownBlock = some b → w.heap.size ≤ b) ∧ ms.length ≤ 3 * 4294967296) := by
            refine ⟨_, mg, rfl, R.row, ?_, R.mof, R.kept, R.mnew, by have := R.total; simp at this; omega⟩
            have := R.merged [] (Merged.ended R.perm)
            rw [List.append_nil] at this
            exact this
          clear R
          go_wp2
          go_ret
          obtain ⟨v, ms, f1, f2⟩ := hfin.out
          exact ⟨v, ms, congrArg Ending.returned f1, f2⟩
        | cons x t =>
          have hve2 : v = .slice va (t.length + 1) vc := hve
          clear hve
          subst hve2
          obtain ⟨g, cap, cur, hvb, hg, hgl, hcur⟩ := R.hp.block (by simp)
          have hvb2 : va = some ⟨g, 0, none⟩ ∧ vc = cap := by
            injection hvb with e1 e2 e3
            exact ⟨e1, e3⟩
          obtain ⟨rfl, rfl⟩ := hvb2
          clear hvb
          have hL := R.hp.lines x (by simp)
          obtain ⟨m, rest, hms⟩ := List.exists_cons_of_ne_nil hL.ne
          obtain ⟨x0, x1, x2, x3, x4, x5, x6, x7⟩ := hL.op 0 m (by rw [hms]; rfl)
          simp only [Nat.zero_mul, Nat.add_zero] at x0 x1 x2 x3 x4 x5 x6 x7
          have xz := World.block_lt_of_cell? wr _ x0
          have ch : wr.cell? ⟨g, 0, none⟩ = some (.slice (some ⟨x.g, x.off, none⟩) (rest.length + 1) x.cap) := by
            rw [Lib.cell_of_heap hg, hcur 0 x rfl]
            unfold Ln.val
            rw [hms]; rfl
          have zg := lt_of_heap hg
          obtain ⟨i0, hi0, hz0, hzs, hzb⟩ := info_parts info_op
          have htot := R.total
          rw [List.map_cons, List.sum_cons, hms, List.length_cons] at htot
          obtain ⟨W, hW⟩ : ∃ W, W = wr.alloc (.cells #[.int .u8 m.o.kind, .int .u8 m.o.peer, .int .u32 m.o.num, .int .u32 m.o.clock, .slice (some ⟨m.g, 0, none⟩) m.o.seen.length m.cap, .int .u32 m.o.nclock, .int .u8 m.o.npeer, .int .i32 m.o.char] 80) := ⟨_, rfl⟩
          have hkW : Kept (fun _ => False) wr W := by rw [hW]; exact (Kept.refl _ wr).alloc _
          have hnb : W.heap[wr.heap.size]? = some (.cells #[.int .u8 m.o.kind, .int .u8 m.o.peer, .int .u32 m.o.num, .int .u32 m.o.clock, .slice (some ⟨m.g, 0, none⟩) m.o.seen.length m.cap, .int .u32 m.o.nclock, .int .u8 m.o.npeer, .int .i32 m.o.char] 80 (0, 0)) := by rw [hW]; exact heap_alloc_new wr _
          obtain ⟨v', w2, hr, hown', hkp, hblk⟩ := append_strong Try.prog W 69 69 80 i0 _ 8 56 Try.underlying69 hi0 hz0 hzs hzb rfl (by decide) (.slice ma mg.length mc) mg.length (opsCells mg) (ownsRow_kept R.row hkW (fun _ _ h => h)) (.slice (some ⟨wr.heap.size, 0, none⟩) 1 1) 1 (opsCells [m])
            (Src.ofSlice _ Try.underlying69 ⟨wr.heap.size, 0, none⟩ 1 1 _ rfl (fun j u hj => by rw [Addr.add_lit, Lib.cell_of_heap hnb]; simpa [opsCells, MOp.cells] using hj) (ops_oneCell _)) (by decide) (by unfold maxLen; omega) (by omega)
          have k2 : Kept (fun b => (Value.slice ma mg.length mc).ownBlock = some b) wr w2 := (hkW.mono (fun _ _ h => h.elim)).trans hkp (fun _ _ h => h)
          have H2 : HpAt w2 w.heap.size (.slice (some ⟨g, 0, none⟩) (t.length + 1) vc) (x :: t) := by
            refine R.hp.keep k2 (fun b hb hm => ?_) (fun y hy hm => ?_)
            · rcases hb with rfl | hb
              · exact own_ne R.row R.hp.box (by decide) hm
              · have e : b = g := by simpa [Value.ownBlock] using hb.symm
                subst e
                exact own_ne R.row hg (by decide) hm
            · have h1 := R.mnew _ hm
              have h2 := (R.of y hy).1.1
              omega
          have htf := takeFirst_any H2 (by have := R.len; simp at this; omega) (R.of x (by simp)).1.2.1
          obtain ⟨av, cv, hveq, _, _⟩ := own_slice hown'
          subst hveq
          have hbn : ∀ b, (Value.slice av (mg.length + 1) cv).ownBlock = some b → w.heap.size ≤ b := fun b hb => by
            rcases hblk b hb with h1 | h1
            · exact R.mnew b h1
            · exact Nat.le_trans R.kept.size (Nat.le_trans hkW.size h1)
          obtain ⟨ls', hp1, hp2⟩ := Merged.next (f := Ln.ops) (h := x) (t := t) (o := m.o) (u := rest.map MOp.o) R.perm R.ok (by unfold Ln.ops; rw [hms]; rfl)
          have hrest : (rest.map MOp.o = []) ↔ x.ms.length = 1 := by rw [hms]; simp
          have hfin : Hid (∀ (w3 : World) (v3 : Value) (hs' : List Ln), HpAt w3 w.heap.size v3 hs' → ((x.ms.length = 1 ∧ hs'.Perm t) ∨ (2 ≤ x.ms.length ∧ hs'.Perm (x.next :: t))) → HeapOk Ln.ops hs' → Kept (HpF w.heap.size (.slice (some ⟨g, 0, none⟩) (t.length + 1) vc)) w2 w3 → (∀ b, HpF w.heap.size v3 b → HpF w.heap.size (.slice (some ⟨g, 0, none⟩) (t.length + 1) vc) b) →
              ∃ hs2 mg2 ls2 v2, AbvB w w3 w.heap.size K (above qs (K.ms.map (List.map MOp.o))) T v2 (.slice av (mg.length + 1) cv) hs2 mg2 ls2) := by
            intro w3 v3 hs' b1 b2 b3 b4 b5
            have hnewF : ∀ b, HpF w.heap.size (.slice (some ⟨g, 0, none⟩) (t.length + 1) vc) b → w.heap.size ≤ b := R.new
            refine ⟨hs', mg ++ [m], ls', v3, b1, b3, ?_, ?_, ?_, ?_, ?_, ?_, ?_, fun b hb => hnewF b (b5 b hb), hbn, ?_⟩
            · refine List.Perm.trans ?_ hp1
              rcases b2 with ⟨c1, c2⟩ | ⟨c1, c2⟩
              · rw [if_pos (hrest.2 c1), List.append_nil]
                exact c2.map _
              · rw [if_neg (fun e => by have := hrest.1 e; omega)]
                have e : x.next.ops = rest.map MOp.o := by
                  unfold Ln.ops Ln.next
                  rw [hms]; rfl
                refine (c2.map Ln.ops).trans ?_
                rw [List.map_cons, e]
                exact (List.perm_append_singleton _ _).symm
            · intro r hr
              rw [List.map_append, List.append_assoc]
              exact R.merged _ (hp2 r hr)
            · rw [List.length_append, opsCells_append]
              refine ownsRow_kept hown' b4 (fun b hb hf => ?_)
              rcases hf with rfl | hf
              · exact own_ne hown' H2.box (by decide) hb
              · have e : b = g := by simpa [Value.ownBlock] using hf.symm
                subst e
                have hg2 : w2.heap[b]? = some (.cells cur 109 (0, 0)) := k2.heap hg (fun hm => own_ne R.row hg (by decide) hm)
                exact own_ne hown' hg2 (by decide) hb
            · have := R.len
              rcases b2 with ⟨c1, c2⟩ | ⟨c1, c2⟩
              · rw [c2.length_eq]; simp at this; omega
              · rw [c2.length_eq]; simpa using this
            · intro y hy
              rcases b2 with ⟨c1, c2⟩ | ⟨c1, c2⟩
              · exact R.of y (by simp [c2.mem_iff.1 hy])
              · rcases List.mem_cons.1 (c2.mem_iff.1 hy) with rfl | h1
                · exact (R.of x (by simp)).next
                · exact R.of y (by simp [h1])
            · intro q hq
              rcases List.mem_append.1 hq with hq | hq
              · exact R.mof q hq
              · rw [List.mem_singleton.1 hq]
                exact (R.of x (by simp)).2 m (by rw [hms]; simp)
            · rw [List.length_append]
              rcases b2 with ⟨c1, c2⟩ | ⟨c1, c2⟩
              · rw [sum_perm (c2.map _)]
                rw [hms] at c1
                simp at c1
                subst c1
                simp at htot ⊢
                omega
              · rw [sum_perm (c2.map _), List.map_cons, List.sum_cons]
                have e : x.next.ms.length = rest.length := by
                  unfold Ln.next
                  rw [hms]; rfl
                rw [e]
                simp
                omega
            · refine (R.kept.trans k2 (fun i hi hm => ?_)).trans b4 (fun i hi hf => ?_)
              · have := R.mnew i hm
                omega
              · have := hnewF i hf
                omega
          rw [hW] at hr
          have hrl : (0 : Int) < (rest.length : Int) + 1 := by omega
          have htll : (0 : Int) < (t.length : Int) + 1 := by omega
          have HTOT : Hid (mg.length + 1 ≤ T) := by
            show _ ≤ _
            omega
          have d5 : w2.cell? ⟨w.heap.size, 0, none⟩ = some (.slice (some ⟨g, 0, none⟩) (t.length + 1) vc) := H2.cell
          clear R hg hcur hL hms hkW hnb hown' hkp hblk k2 H2 hbn hp1 hp2 hrest hW hi0 hz0 hzs hzb htot
          go_wp2_with (first | (at_builtin; refine Lib.wpList_append_run _ rfl _ _ _ _ rfl _ _ rfl rfl _ _ (hr _) ?_) | fail)
          refine htf.mono ?_
          rintro e3 w3 ⟨rfl, v3, hs', b1, b2, b3, b4, b5⟩
          have R2 : Hid _ := hfin.out w3 v3 hs' b1 b2 b3 b4 b5
          clear hfin htf b1 b2 b3 b4 b5
          go_wp2
          go_roundw
          case rel => exact R2
          case measure =>
            have := HTOT.out
            simp only [vlen]
            omega
theorem packet_mop (N : Nat) (m : MOp) (w : World) (h : RightOp N m.o) (hs : SeenAt w m) :
    Calls Try.prog 38 #[.agg #[.int .u8 m.o.kind, .int .u8 m.o.peer, .int .u32 m.o.num, .int .u32 m.o.clock, .slice (some ⟨m.g, 0, none⟩) m.o.seen.length m.cap, .int .u32 m.o.nclock, .int .u8 m.o.npeer, .int .i32 m.o.char]] w fun e' w' => e' = .returned (.string ⟨m.o.packet.toArray⟩) ∧ Kept (fun _ => False) w w' := by
  obtain ⟨cur, h1, h2⟩ := hs
  have hg := h.group
  have hp := h.peer
  have hnm := h.name
  have hch : m.o.char ≤ 1114111 := by
    have := h.char
    split at this <;> omega
  have hk : m.o.kind = 1 ∨ m.o.kind = 2 := by unfold Ope.kind; split <;> simp
  exact packet_any m.o.kind m.o.peer m.o.num m.o.clock m.o.seen m.g m.cap m.o.nclock m.o.npeer m.o.char w hk (by omega) h.num.2 h.clock.2 hnm.1 (by omega) hch (by rw [h.seen]; exact hg) h.fits (fun i x hx => by rw [Lib.cell_of_heap h1]; exact h2 i x hx)
def strsOf (l : List Ope) : List Value := l.map fun o => .string ⟨o.packet.toArray⟩
theorem info_str' : (Try.prog.info? 9).map (fun i => (i.zero, i.size, i.bytes)) = some (some (.string ⟨#[]⟩), 1, 16) := by kernel_rfl
set_option maxHeartbeats 2000000 in
set_option maxRecDepth 100000 in
theorem rest_any (s : Pr) (N bp : Nat) (F : Nat → Prop) (qs : List Nat) (gq cq : Nat) (w : World) (h : PM w bp s F) (hf : Fit N s) (hN : N ≤ 3) (hql : qs.length = N)
    (hq : ∀ (i n : Nat), qs[i]? = some n → w.cell? ⟨gq, i, none⟩ = some (.int .i64 (n : Int))) (hqb : ∀ n ∈ qs, n < 4294967296) :
    Calls Try.prog 25 #[.pointer (some ⟨bp, 0, none⟩), .slice (some ⟨gq, 0, none⟩) N cq] w fun e' w' => ∃ pv, e' = .returned (.tuple #[pv, .int .i64 0]) ∧ ∃ ops, Merged (above qs s.log) ops ∧ w'.ownsRow 0 9 1 pv ops.length (strsOf ops) ∧ Kept (fun _ => False) w w' ∧ (∀ b, pv.ownBlock = some b → w.heap.size ≤ b) ∧ ∀ o ∈ ops, RightOp N o := by
  obtain ⟨bk, rv, hv, ms, P, H, ho, rfl⟩ := h
  obtain ⟨c0, c1, c2, c3, c4⟩ := P.cells
  have hbw := lt_of_heap P.block
  have hk := hf.len
  have hab := above_any bp 2 s.known.length bk s.known qs gq cq w c2 P.log (by omega) (by omega) hq hqb hf.known
  have hpe := hPeers_any bp 2 s.known.length s.known.length _ w c2
  have hct := intContains_none qs (some ⟨gq, 0, none⟩) cq w (fun _ => ⟨gq, rfl, hq⟩) (by omega)
  rw [P.ops, hql] at hab
  rw [hql] at hct
  rw [hk] at hpe c2
  have hRO : ∀ m, (∃ r ∈ bk.ms, m ∈ r) → RightOp N m.o ∧ SeenAt w m := fun m ⟨r, hr, hm⟩ => by
    refine ⟨hf.log (r.map MOp.o) ?_ m.o (List.mem_map_of_mem hm), P.log.seen r hr m hm⟩
    rw [← P.ops]
    exact List.mem_map_of_mem hr
  have HRO : Hid _ := hRO
  clear hRO hq hqb H ho hf P c0 c1 c3 c4 hk hql
  go_enter Try.func25, Try.ntmps25
  go_wp2_with fail
  refine hpe.mono ?_
  rintro e1 w1 ⟨rfl, hw1⟩
  rw [hw1]
  clear hw1 hpe
  go_wp2_with fail
  refine hct.mono ?_
  rintro e2 w2 ⟨rfl, hw2⟩
  rw [hw2]
  clear hw2 hct
  go_wp2_with fail
  refine hab.mono ?_
  rintro e3 w3 ⟨v, os, rfl, hrow, hmg, hof, hk3, hnew, hol⟩
  obtain ⟨va, vc, hve, _, _⟩ := own_slice hrow
  subst hve
  clear hab
  have HM : Hid (Merged (above qs s.log) (os.map MOp.o) ∧ ∀ m ∈ os, ∃ r ∈ bk.ms, m ∈ r) := ⟨hmg, hof⟩
  have HR : Hid (w3.ownsRow 0 80 8 (.slice va os.length vc) os.length (opsCells os)) := hrow
  clear hmg hof hrow
  go_wp2
  go_loopw [6, 30] (fun pv iv wr => ∃ k : Nat, k ≤ os.length ∧ iv = .int .i64 k ∧ Hid (wr.ownsRow 0 9 1 pv k (strsOf ((os.take k).map MOp.o)) ∧ Kept (fun _ => False) w3 wr ∧ ∀ b, pv.ownBlock = some b → w3.heap.size ≤ b)) (fun _ iv _ => os.length - (intOf iv).toNat)
  case atStart => exact ⟨0, Nat.zero_le _, rfl, World.ownsRow_nil _ _ _ _, Kept.refl _ _, fun b hb => by simp [Value.ownBlock] at hb⟩
  case round =>
    obtain ⟨k, hk, rfl, R⟩ := hrel
    obtain ⟨R1, R2, R3⟩ := R.out
    obtain ⟨pa, pc, hpe, _, _⟩ := own_slice R1
    subst hpe
    by_cases hlt : k < os.length
    · have hlt2 : (k : Int) < (os.length : Int) := by omega
      obtain ⟨m, hm⟩ : ∃ m, os[k]? = some m := ⟨_, List.getElem?_eq_getElem hlt⟩
      obtain ⟨g, rfl, cell⟩ : ∃ g, va = some ⟨g, 0, none⟩ ∧ ∀ (j : Nat) (u : Value), m.cells[j]? = some u → wr.cell? ⟨g, k * 8 + j, none⟩ = some u := by
        rcases HR.out.2 with ⟨_, h0⟩ | ⟨g, cap, cur, e1, _, e3, e4, e5, e6, e7⟩
        · omega
        · injection e1 with e1 e2 e3'
          refine ⟨g, e1, fun j u hu => ?_⟩
          have hj8 : j < 8 := by
            have := (List.getElem?_eq_some_iff.1 hu).1
            simpa [MOp.cells] using this
          have h4 := opsCells_at os k m hm j hj8
          rw [hu, ← e7, List.getElem?_take] at h4
          split at h4
          · rw [Lib.cell_of_heap (R2.heap e3 (fun h => h)), ← Array.getElem?_toList]
            exact h4
          · cases h4
      have x0 := cell 0 _ rfl
      have x1 := cell 1 _ rfl
      have x2 := cell 2 _ rfl
      have x3 := cell 3 _ rfl
      have x4 := cell 4 _ rfl
      have x5 := cell 5 _ rfl
      have x6 := cell 6 _ rfl
      have x7 := cell 7 _ rfl
      simp only [Nat.add_zero] at x0
      have xz := World.block_lt_of_cell? wr _ x0
      obtain ⟨hro, hse⟩ := HRO.out m (HM.out.2 m (List.mem_of_getElem? hm))
      obtain ⟨W, hW⟩ : ∃ W, W = wr.alloc (.cells #[.int .u8 m.o.kind, .int .u8 m.o.peer, .int .u32 m.o.num, .int .u32 m.o.clock, .slice (some ⟨m.g, 0, none⟩) m.o.seen.length m.cap, .int .u32 m.o.nclock, .int .u8 m.o.npeer, .int .i32 m.o.char] 80) := ⟨_, rfl⟩
      have hkW : Kept (fun _ => False) wr W := by rw [hW]; exact (Kept.refl _ wr).alloc _
      have hpk := packet_mop N m W hro (hse.keep ((hk3.trans' R2).trans' hkW) (fun h => h))
      rw [hW] at hpk
      have HW : Hid _ := hW
      clear hW cell hro hse
      obtain ⟨S, hS⟩ : ∃ S : ByteArray, (⟨m.o.packet.toArray⟩ : ByteArray) = S := ⟨_, rfl⟩
      rw [hS] at hpk
      go_wp2_with fail
      refine hpk.mono ?_
      rintro e4 w4 ⟨rfl, hk4⟩
      rw [← HW.out] at hk4
      have hKr : Kept (fun _ => False) wr w4 := hkW.trans' hk4
      obtain ⟨i0, hi0, hz0, hzs, hzb⟩ := info_parts info_str'
      have hkA : Kept (fun _ => False) w4 (w4.alloc (.cells #[.string S] 9)) := (Kept.refl _ w4).alloc _
      have hnb : (w4.alloc (.cells #[.string S] 9)).heap[w4.heap.size]? = some (.cells #[.string S] 9 (0, 0)) := heap_alloc_new w4 _
      obtain ⟨v', w5, hr, hown', hkp, hblk⟩ := append_strong Try.prog _ 56 56 9 i0 _ 1 16 Try.underlying56 hi0 hz0 hzs hzb rfl (by decide) (.slice pa k pc) k _ (ownsRow_kept R1 (hKr.trans' hkA) (fun _ _ h => h)) (.slice (some ⟨w4.heap.size, 0, none⟩) 1 1) 1 [.string S]
        (Src.ofSlice _ Try.underlying56 ⟨w4.heap.size, 0, none⟩ 1 1 _ rfl (fun j u hj => by rw [Addr.add_lit, Lib.cell_of_heap hnb]; simpa using hj) (fun u hu => by simp at hu; subst hu; rfl)) (by decide) (by unfold maxLen; omega) (by omega)
      have R4 : Hid (w5.ownsRow 0 9 1 v' (k + 1) (strsOf ((os.take (k + 1)).map MOp.o)) ∧ Kept (fun _ => False) w3 w5 ∧ ∀ b, v'.ownBlock = some b → w3.heap.size ≤ b) := by
        refine ⟨?_, ?_, fun b hb => ?_⟩
        · have e : strsOf ((os.take (k + 1)).map MOp.o) = strsOf ((os.take k).map MOp.o) ++ [.string S] := by
            rw [List.take_succ_eq_append_getElem hlt, (List.getElem?_eq_some_iff.1 hm).2, ← hS]
            simp [strsOf]
          rw [e]; exact hown'
        · refine ((R2.trans' hKr).trans' hkA).trans hkp (fun i hi hb => ?_)
          have := R3 i hb
          omega
        · rcases hblk b hb with h1 | h1
          · exact R3 b h1
          · exact Nat.le_trans R2.size (Nat.le_trans hKr.size (Nat.le_trans hkA.size h1))
      clear hown' hkp hblk hnb hkA hKr hk4 hkW HW R R1 R2 R3 hpk x0 x1 x2 x3 x4 x5 x6 x7 hi0 hz0 hzs hzb hm hS
      go_wp2_with (at_builtin; refine Lib.wpList_append_run _ rfl _ _ _ _ rfl _ _ rfl rfl _ _ (hr _) ?_)
      go_roundw
      case rel => exact ⟨k + 1, by omega, by go_num, R4⟩
      case measure => simp [intOf]; omega
    · have hlt2 : ¬ (k : Int) < (os.length : Int) := by omega
      have hlt3 : decide ((k : Int) < (os.length : Int)) = false := by rw [decide_eq_false_iff_not]; exact hlt2
      obtain rfl : k = os.length := by omega
      go_wp2
      go_ret2
      refine ⟨_, rfl, os.map MOp.o, HM.out.1, ?_, hk3.trans' R2, fun b hb => Nat.le_trans hk3.size (R3 b hb), fun o ho => ?_⟩
      · rw [List.length_map]
        rw [List.take_length] at R1
        exact R1
      · obtain ⟨m, hm, rfl⟩ := List.mem_map.1 ho
        exact (HRO.out m (HM.out.2 m hm)).1
end Go.Proofs.Ytgfafbanahiigaa
/- As 'wp_region_by', where an edge that does not bind may go on ahead; of no program. -/
namespace Go.Chorus
/-- As 'plainRegion', but that the edges which bind alone rise. -/
def plainRegionB (l : List Oper) (size : Nat) : Bool :=
  (l.all fun o => o.guard.isNone && (match o.dst with | some d => decide (d < size) | none => false)) && decide ((l.map fun o => o.dst).Nodup) && ((List.range l.length).all fun i => ((l[i]?).map fun o => o.after.all fun e => !Region.binds .any e || decide (e.on < i)).getD true)
theorem all_of_readyA {ops : Array Oper} (hr : ∀ (i : Nat) (o : Oper), ops[i]? = some o → ∀ e ∈ o.after, Region.binds .any e = true → e.on < i) (listed : Array Bool) (hs : listed.size = ops.size) (h : Region.ready .any ops listed = []) : ∀ i, i < ops.size → listed.getD i false = true := by
  intro i
  induction i using Nat.strongRecOn with
  | _ i ih =>
    intro hi
    by_cases hl : listed.getD i false = true
    · exact hl
    · exfalso
      have hil : i < listed.size := by omega
      have hm : i ∈ Region.ready .any ops listed := by
        refine mem_ready.2 ⟨?_, ops[i], Array.getElem?_eq_getElem hi, fun e he hb => ?_⟩
        · simp only [Array.getD, hil, dif_pos] at hl ⊢; simpa using hl
        · have h2 := hr i ops[i] (Array.getElem?_eq_getElem hi) e he hb
          exact ih e.on h2 (by omega)
      rw [h] at hm; cases hm
section
variable {P : Program} {ops : Array Oper} {Q : Exit → Act → World → Prop}
/-- A region that draws, by a claim for each operation: as many goals as operations. -/
theorem wp_region_claimsB {id : Nat} {a0 : Act} {w : World} (hm : P.follows .mixedOrders = true) (V : Nat → Value → World → Prop)
    (hV : ∀ i v w w', V i v w → Kept (fun _ => False) w w' → V i v w')
    (hd : ∀ (i : Nat) (o : Oper), ops[i]? = some o → o.guard = none ∧ ∃ d, o.dst = some d ∧ d < a0.tmps.size)
    (hne : ∀ (i j : Nat) (o u : Oper), ops[i]? = some o → ops[j]? = some u → i ≠ j → o.dst ≠ u.dst)
    (hop : ∀ (i : Nat) (o : Oper), ops[i]? = some o → ∀ a w1, Upto ops V a0 (w.drew) i o a w1 → o.wp P a w1 (fun a' w' => ∃ v, a' = a.put o.dst v ∧ V i v w' ∧ Kept (fun _ => False) w1 w') Q)
    (hend : ∀ a w1, Kept (fun _ => False) w.drew w1 → a.tmps.size = a0.tmps.size → a.defers = a0.defers → (∀ (i : Nat) (o : Oper) (d : Tmp), ops[i]? = some o → o.dst = some d → ∃ v, a.tmps[d]? = some v ∧ V i v w1) →
      (∀ d : Tmp, (∀ (i : Nat) (o : Oper), ops[i]? = some o → o.dst ≠ some d) → a.tmps[d]? = a0.tmps[d]?) → Q .normal a w1)
    (hrise : ∀ (i : Nat) (o : Oper), ops[i]? = some o → ∀ e ∈ o.after, Region.binds .any e = true → e.on < i) :
    (Code.region id ops true).wp P Q a0 w := by
  refine wp_region_inv hm (ByClaims ops V a0 w.drew) ?_ ?_ ?_
  · intro listed a w1 inv hr
    have hl := all_of_readyA hrise listed inv.count hr
    refine hend a w1 inv.kept inv.size inv.defers (fun i o d hi hdd => inv.done i o d hi (hl i ?_) hdd) (fun d hdd => inv.rest d (fun i o hi _ => hdd i o hi))
    exact (Array.getElem?_eq_some_iff.1 hi).1
  · intro listed a w1 i inv hi
    obtain ⟨hun, o, ho, hdeps⟩ := mem_ready.1 hi
    obtain ⟨hg, d, hdo, hdl⟩ := hd i o ho
    have hil : i < listed.size := by rw [inv.count]; exact (Array.getElem?_eq_some_iff.1 ho).1
    have hunf : listed.getD i false = false := by
      simp only [Array.getD, hil, dif_pos] at hun ⊢; exact hun
    have hup : Upto ops V a0 w.drew i o a w1 := by
      refine ⟨inv.kept, inv.size, inv.defers, fun e he hb oj dj hj hdj => inv.done e.on oj dj hj (hdeps e he hb) hdj, fun d' hd' => inv.rest d' (fun j oj hj hlj hdj => ?_)⟩
      rcases hd' j oj hj hdj with rfl | ⟨e, he, hb, hei⟩
      · rw [hunf] at hlj; cases hlj
      · have := inv.closed j oj hj hlj e he hb
        rw [hei, hunf] at this; cases this
    unfold wpOp
    simp only [ho]
    have hw : Region.wanted o (yielded ops a.tmps) = true := by simp [Region.wanted, hg]
    rw [if_pos hw]
    left
    refine Oper.wp_mono ?_ (hop i o ho a w1 hup)
    rintro a' w' ⟨v, rfl, hv, hk⟩
    rw [hdo]
    refine ⟨by simp [inv.count], inv.kept.trans' hk, by simp [Act.put, inv.size], inv.defers, ?_, ?_, ?_⟩
    · intro j oj dj hj hlj hdj
      rw [getD_set _ _ _ hil] at hlj
      by_cases hij : i = j
      · subst hij
        rw [ho] at hj
        cases hj
        rw [hdo] at hdj
        cases hdj
        exact ⟨v, by rw [put_get, if_pos rfl, if_pos (by rw [inv.size]; exact hdl)], hv⟩
      · rw [if_neg hij] at hlj
        obtain ⟨u, hu, hvu⟩ := inv.done j oj dj hj hlj hdj
        refine ⟨u, ?_, hV _ _ _ _ hvu hk⟩
        rw [put_get, if_neg (fun e => hne i j o oj ho hj hij (by rw [hdo, hdj, e]))]
        exact hu
    · intro d' hd'
      have hdd : d ≠ d' := fun e => hd' i o ho (by rw [getD_set _ _ _ hil, if_pos rfl]) (by rw [hdo, e])
      rw [put_get, if_neg hdd]
      refine inv.rest d' (fun j oj hj hlj => hd' j oj hj ?_)
      rw [getD_set _ _ _ hil]
      split
      · rfl
      · exact hlj
    · intro j oj hj hlj e he hb
      rw [getD_set _ _ _ hil] at hlj ⊢
      by_cases hij : i = j
      · subst hij
        rw [ho] at hj
        cases hj
        have := hdeps e he hb
        split
        · rfl
        · exact this
      · rw [if_neg hij] at hlj
        have := inv.closed j oj hj hlj e he hb
        split
        · rfl
        · exact this
  · refine ⟨by simp, Kept.refl _ _, rfl, rfl, ?_, fun d _ => rfl, ?_⟩
    · intro i o d _ hl _
      exfalso
      simp only [Array.getD_eq_getD_getElem?, Array.getElem?_replicate] at hl
      split at hl <;> simp at hl
    · intro i o _ hl
      exfalso
      simp only [Array.getD_eq_getD_getElem?, Array.getElem?_replicate] at hl
      split at hl <;> simp at hl
end
/-- A region that draws, its operations written out, by a claim for each operation. -/
theorem wp_region_byB {P : Program} {Q : Exit → Act → World → Prop} {id : Nat} {a0 : Act} {w : World} {l : List Oper} (hm : P.follows .mixedOrders = true) (n : Nat) (hn : a0.tmps.size = n) (hB : plainRegionB l n = true) (V : Nat → Value → World → Prop)
    (hV : ∀ i v w w', V i v w → Kept (fun _ => False) w w' → V i v w')
    (hop : ∀ (i : Nat) (o : Oper), l[i]? = some o → ∀ a w1, Upto l.toArray V a0 (w.drew) i o a w1 → o.wp P a w1 (fun a' w' => ∃ v, a' = a.put o.dst v ∧ V i v w' ∧ Kept (fun _ => False) w1 w') Q)
    (hend : ∀ (vals : Nat → Value) w1, Kept (fun _ => False) w.drew w1 → (∀ i, i < l.length → V i (vals i) w1) → Q .normal (putAll a0 l 0 vals) w1) :
    (Code.region id l.toArray true).wp P Q a0 w := by
  simp only [plainRegionB, Bool.and_eq_true, List.all_eq_true, decide_eq_true_eq] at hB
  obtain ⟨⟨hB1, hB2⟩, hB3⟩ := hB
  have hget : ∀ (i : Nat), l.toArray[i]? = l[i]? := fun i => by simp
  have hdst : ∀ (i : Nat) (o : Oper), l.toArray[i]? = some o → o.guard = none ∧ ∃ d, o.dst = some d ∧ d < a0.tmps.size := by
    intro i o ho
    rw [hget] at ho
    have h1 := hB1 o (List.mem_of_getElem? ho)
    refine ⟨by simpa using h1.1, ?_⟩
    cases hd : o.dst with
    | none => rw [hd] at h1; simp at h1
    | some d => rw [hd] at h1; exact ⟨d, rfl, by rw [hn]; simpa using h1.2⟩
  have hB3' : ∀ (i : Nat) (o : Oper), l.toArray[i]? = some o → ∀ e ∈ o.after, Region.binds .any e = true → e.on < i := fun i o ho e he hb => by
    rw [hget] at ho
    have hi := (List.getElem?_eq_some_iff.1 ho).1
    have h1 := hB3 i (List.mem_range.2 hi)
    rw [ho] at h1
    simp only [Option.map_some, Option.getD_some, Array.all_eq_true'] at h1
    have h2 := h1 e he
    rw [hb] at h2
    simpa using h2
  have hpw : l.Pairwise fun o u => o.dst ≠ u.dst := by
    rw [List.Nodup, List.pairwise_map] at hB2; exact hB2
  refine wp_region_claimsB hm V hV hdst ?_ (fun i o ho => hop i o (by rw [← hget]; exact ho)) ?_ hB3'
  · intro i j o u ho hu hij
    rw [hget] at ho hu
    obtain ⟨hi, rfl⟩ := List.getElem?_eq_some_iff.1 ho
    obtain ⟨hj, rfl⟩ := List.getElem?_eq_some_iff.1 hu
    rcases Nat.lt_or_ge i j with h1 | h1
    · exact List.pairwise_iff_getElem.1 hpw i j hi hj h1
    · exact (List.pairwise_iff_getElem.1 hpw j i hj hi (by omega)).symm
  · intro a w1 hk hsz hdf hdone hrest
    obtain ⟨vals, hvals⟩ : ∃ vals : Nat → Value, ∀ i (o : Oper) d, l[i]? = some o → o.dst = some d → a.tmps[d]? = some (vals i) ∧ V i (vals i) w1 := by
      refine ⟨fun i => match l[i]? with | some o => (match o.dst with | some d => (a.tmps[d]?).getD undef | none => undef) | none => undef, ?_⟩
      intro i o d hi hd
      obtain ⟨v, h1, h2⟩ := hdone i o d (by rw [hget]; exact hi) hd
      simp only [hi, hd, h1, Option.getD_some]
      exact ⟨trivial, h2⟩
    have hfr : a = putAll a0 l 0 vals := by
      have h1 := putAll_size l a0 0 vals
      have ht : a.tmps = (putAll a0 l 0 vals).tmps := by
        apply Array.ext_getElem?
        intro d
        by_cases hx : ∃ (i : Nat) (o : Oper), l[i]? = some o ∧ o.dst = some d
        · obtain ⟨i, o, hi, hd⟩ := hx
          obtain ⟨_, d', hd', hlt⟩ := hdst i o (by rw [hget]; exact hi)
          rw [hd] at hd'; cases hd'
          rw [putAll_done l a0 0 vals hpw i o d hi hd hlt, (hvals i o d hi hd).1, Nat.zero_add]
        · rw [putAll_rest l a0 0 vals d (fun o ho hd => by
            obtain ⟨i, hi, rfl⟩ := List.getElem_of_mem ho
            exact hx ⟨i, _, List.getElem?_eq_getElem hi, hd⟩)]
          exact hrest d (fun i o ho hd => hx ⟨i, o, by rw [← hget]; exact ho, hd⟩)
      have hd2 : a.defers = (putAll a0 l 0 vals).defers := by rw [hdf, h1.2]
      cases a
      simp only at ht hd2
      rw [ht, hd2]
    rw [hfr]
    refine hend vals w1 hk (fun i hi => ?_)
    obtain ⟨_, d, hd, _⟩ := hdst i l[i] (by rw [hget]; exact List.getElem?_eq_getElem hi)
    exact (hvals i l[i] d (List.getElem?_eq_getElem hi) hd).2
end Go.Chorus
