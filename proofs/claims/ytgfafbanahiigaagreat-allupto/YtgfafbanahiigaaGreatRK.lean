import Derived.Test.YtgfafbanahiigaaGreatRH
import Derived.Test.YtgfafbanahiigaaGreatRV
set_option linter.unusedVariables false
set_option linter.unusedSimpArgs false
namespace Go.Chorus
structure UptoP (l : List Oper) (i1 i2 : Nat) (c : Nat → Value) (a0 : Act) (w0 : World) (o : Oper) (a : Act) (w : World) : Prop where
 kept : Kept (fun _ => False) w0 w
 dep : ∀ e ∈ o.after, Region.binds .any e = true → e.on ≠ i1 → e.on ≠ i2 → ∀ (oj : Oper) (d : Tmp), l[e.on]? = some oj → oj.dst = some d → a.tmps[d]? = some (c e.on)
 old : ∀ d : Tmp, (∀ oj ∈ l, oj.dst ≠ some d) → a.tmps[d]? = a0.tmps[d]?
def pairRegion (l : List Oper) (size i1 i2 s1 s2 d1 d2 : Nat) : Bool :=
 (l.all fun o => o.guard.isNone && (match o.dst with | some d => decide (d < size) | none => true)) && decide ((l.filterMap fun o => o.dst).Nodup) &&
 ((List.range l.length).all fun i => ((l[i]?).map fun o => (o.after.all fun e => !Region.binds .any e || decide (e.on < i)) && (decide (i = s1) || decide (i = s2) || o.dst.isSome)).getD true) &&
 (((l[i1]?).map fun o => decide (o.dst = some d1)).getD false) && (((l[i2]?).map fun o => decide (o.dst = some d2)).getD false) &&
 (((l[s1]?).map fun o => decide (o.dst = none) && o.after.any fun e => Region.binds .any e && decide (e.on = i1)).getD false) &&
 (((l[s2]?).map fun o => decide (o.dst = none) && o.after.any fun e => Region.binds .any e && decide (e.on = i2)).getD false) &&
 decide (i1 ≠ i2) && decide (s1 ≠ s2) && decide (i1 ≠ s1) && decide (i1 ≠ s2) && decide (i2 ≠ s1) && decide (i2 ≠ s2)
structure PairInv (l : List Oper) (i1 i2 s1 s2 d1 d2 : Nat) (c : Nat → Value) (T : TypeId) (Z X Y : Array Value) (a0 : Act) (w0 : World) (b1 b2 : Nat) (listed : Array Bool) (a : Act) (w : World) : Prop where
 count : listed.size = l.length
 kept : Kept (fun _ => False) w0 w
 size : a.tmps.size = a0.tmps.size
 defers : a.defers = a0.defers
 done : ∀ (i : Nat) (o : Oper) (d : Tmp), l[i]? = some o → listed.getD i false = true → i ≠ i1 → i ≠ i2 → o.dst = some d → a.tmps[d]? = some (c i)
 one : listed.getD i1 false = true → a.tmps[d1]? = some (.pointer (some ⟨b1, 0, none⟩)) ∧ w0.heap.size ≤ b1 ∧ w.heap[b1]? = some (.cells (if listed.getD s1 false = true then X else Z) T (0, 0))
 two : listed.getD i2 false = true → a.tmps[d2]? = some (.pointer (some ⟨b2, 0, none⟩)) ∧ w0.heap.size ≤ b2 ∧ w.heap[b2]? = some (.cells (if listed.getD s2 false = true then Y else Z) T (0, 0))
 apart : listed.getD i1 false = true → listed.getD i2 false = true → b1 ≠ b2
 rest : ∀ d : Tmp, (∀ (i : Nat) (o : Oper), l[i]? = some o → listed.getD i false = true → o.dst ≠ some d) → a.tmps[d]? = a0.tmps[d]?
 closed : ∀ (i : Nat) (o : Oper), l[i]? = some o → listed.getD i false = true → ∀ e ∈ o.after, Region.binds .any e = true → listed.getD e.on false = true
theorem nodup_dst {l : List Oper} (h : (l.filterMap fun o => o.dst).Nodup) : ∀ (i j : Nat) (o u : Oper) (d : Tmp), l[i]? = some o → l[j]? = some u → i ≠ j → o.dst = some d → u.dst ≠ some d := by
 induction l with
 | nil => intro i j o u d hi; simp at hi
 | cons x r ih =>
  intro i j o u d hi hj hij hd
  have hr : (r.filterMap fun o => o.dst).Nodup := by
   rw [List.filterMap_cons] at h
   split at h
   ·exact h
   ·exact (List.nodup_cons.1 h).2
  have hmem : ∀ (k : Nat) (y : Oper), r[k]? = some y → y.dst = some d → d ∈ r.filterMap fun o => o.dst := fun k y hk hy => List.mem_filterMap.2 ⟨y, List.mem_of_getElem? hk, hy⟩
  have hx : x.dst = some d → d ∉ r.filterMap fun o => o.dst := fun hxd => by
   rw [List.filterMap_cons, hxd] at h
   exact (List.nodup_cons.1 h).1
  cases i with
  | zero =>
   cases j with
   | zero => exact absurd rfl hij
   | succ j =>
    simp at hi hj
    subst hi
    intro hu
    exact hx hd (hmem j u hj hu)
  | succ i =>
   cases j with
   | zero =>
    simp at hi hj
    subst hj
    intro hu
    exact hx hu (hmem i o hi hd)
   | succ j =>
    simp at hi hj
    exact ih hr i j o u d hi hj (by omega) hd
theorem all_of_readyB {l : List Oper} (hr : ∀ (i : Nat) (o : Oper), l[i]? = some o → ∀ e ∈ o.after, Region.binds .any e = true → e.on < i) (listed : Array Bool) (hs : listed.size = l.length) (h : Region.ready .any l.toArray listed = []) : ∀ i, i < l.length → listed.getD i false = true := by
 intro i
 induction i using Nat.strongRecOn with
 | _ i ih =>
  intro hi
  by_cases hl : listed.getD i false = true
  ·exact hl
  ·exfalso
   have hil : i < listed.size := by omega
   have hm : i ∈ Region.ready .any l.toArray listed := by
    refine mem_ready.2 ⟨?_, l[i], by simp [hi], fun e he hb => ?_⟩
    ·simp only [Array.getD, hil, dif_pos] at hl ⊢; simpa using hl
    ·have h2 := hr i l[i] (List.getElem?_eq_getElem hi) e he hb
     exact ih e.on h2 (by omega)
   rw [h] at hm; cases hm
theorem putAll_at (l : List Oper) (a : Act) (i : Nat) (vals : Nat → Value) (hne : ∀ (i j : Nat) (o u : Oper) (d : Tmp), l[i]? = some o → l[j]? = some u → i ≠ j → o.dst = some d → u.dst ≠ some d) (j : Nat) (o : Oper) (d : Tmp) (hj : l[j]? = some o) (hd : o.dst = some d) (hs : d < a.tmps.size) :
  (putAll a l i vals).tmps[d]? = some (vals (i + j)) := by
 induction l generalizing a i j with
 | nil => simp at hj
 | cons x r ih =>
  show (putAll (a.put x.dst (vals i)) r (i + 1) vals).tmps[d]? = _
  cases j with
  | zero =>
   simp at hj
   subst hj
   rw [putAll_rest r _ _ _ d (fun o' ho' => by
    obtain ⟨k, hk, rfl⟩ := List.getElem_of_mem ho'
    exact hne 0 (k + 1) x _ d rfl (by simp [hk]) (by omega) hd), hd, put_get, if_pos rfl, if_pos hs]
   rfl
  | succ j =>
   rw [ih (a.put x.dst (vals i)) (i + 1) (fun p q o u d hp hq hpq ho => hne (p + 1) (q + 1) o u d (by simpa using hp) (by simpa using hq) (by omega) ho) j (by simpa using hj) (by rw [put_size]; exact hs)]
   congr 2; omega
theorem frame_all {l : List Oper} {a a0 : Act} {vals : Nat → Value} (hne : ∀ (i j : Nat) (o u : Oper) (d : Tmp), l[i]? = some o → l[j]? = some u → i ≠ j → o.dst = some d → u.dst ≠ some d) (hs : a.tmps.size = a0.tmps.size) (hdf : a.defers = a0.defers)
  (hd : ∀ (i : Nat) (o : Oper) (d : Tmp), l[i]? = some o → o.dst = some d → a.tmps[d]? = some (vals i)) (hr : ∀ d : Tmp, (∀ oj ∈ l, oj.dst ≠ some d) → a.tmps[d]? = a0.tmps[d]?) : a = putAll a0 l 0 vals := by
 have h1 := putAll_size l a0 0 vals
 have ht : a.tmps = (putAll a0 l 0 vals).tmps := by
  apply Array.ext_getElem?
  intro d
  by_cases hx : ∃ (i : Nat) (o : Oper), l[i]? = some o ∧ o.dst = some d
  ·obtain ⟨i, o, hi, hdd⟩ := hx
   have h2 := hd i o d hi hdd
   have hlt : d < a0.tmps.size := by rw [← hs]; exact (Array.getElem?_eq_some_iff.1 h2).1
   rw [putAll_at l a0 0 vals hne i o d hi hdd hlt, h2, Nat.zero_add]
  ·have hno : ∀ o ∈ l, o.dst ≠ some d := fun o ho hdd => by
    obtain ⟨i, hi, rfl⟩ := List.getElem_of_mem ho
    exact hx ⟨i, _, List.getElem?_eq_getElem hi, hdd⟩
   rw [putAll_rest l a0 0 vals d hno, hr d hno]
 have hd2 : a.defers = (putAll a0 l 0 vals).defers := by rw [hdf, h1.2]
 cases a
 simp only at ht hd2
 rw [ht, hd2]
theorem wp_region_pair {P : Program} {Q : Exit → Act → World → Prop} {id : Nat} {a0 : Act} {w : World} {l : List Oper} (hm : P.follows .mixedOrders = true) (n i1 i2 s1 s2 d1 d2 : Nat) (hn : a0.tmps.size = n) (hB : pairRegion l n i1 i2 s1 s2 d1 d2 = true) (c : Nat → Value) (T : TypeId) (Z X Y : Array Value)
  (hread : ∀ (i : Nat) (o : Oper), l[i]? = some o → i ≠ i1 → i ≠ i2 → i ≠ s1 → i ≠ s2 → ∀ a w1, UptoP l i1 i2 c a0 w.drew o a w1 → o.wp P a w1 (fun a' w' => a' = a.put o.dst (c i) ∧ w' = w1) Q)
  (hal : ∀ (i : Nat) (o : Oper), l[i]? = some o → i = i1 ∨ i = i2 → ∀ a w1, o.wp P a w1 (fun a' w' => a' = a.put o.dst (.pointer (some ⟨w1.heap.size, 0, none⟩)) ∧ w' = w1.alloc (.cells Z T)) Q)
  (hst1 : ∀ o : Oper, l[s1]? = some o → ∀ a w1 b, UptoP l i1 i2 c a0 w.drew o a w1 → a.tmps[d1]? = some (.pointer (some ⟨b, 0, none⟩)) → w1.heap[b]? = some (.cells Z T (0, 0)) → o.wp P a w1 (fun a' w' => a' = a ∧ Kept (fun x => x = b) w1 w' ∧ w'.heap[b]? = some (.cells X T (0, 0))) Q)
  (hst2 : ∀ o : Oper, l[s2]? = some o → ∀ a w1 b, UptoP l i1 i2 c a0 w.drew o a w1 → a.tmps[d2]? = some (.pointer (some ⟨b, 0, none⟩)) → w1.heap[b]? = some (.cells Z T (0, 0)) → o.wp P a w1 (fun a' w' => a' = a ∧ Kept (fun x => x = b) w1 w' ∧ w'.heap[b]? = some (.cells Y T (0, 0))) Q)
  (hend : ∀ (w1 : World) (b1 b2 : Nat), Kept (fun _ => False) w.drew w1 → b1 ≠ b2 → w.heap.size ≤ b1 → w.heap.size ≤ b2 → w1.heap[b1]? = some (.cells X T (0, 0)) → w1.heap[b2]? = some (.cells Y T (0, 0)) →
   Q .normal (putAll a0 l 0 (fun k => if k = i1 then .pointer (some ⟨b1, 0, none⟩) else if k = i2 then .pointer (some ⟨b2, 0, none⟩) else c k)) w1) :
  (Code.region id l.toArray true).wp P Q a0 w := by
 simp only [pairRegion, Bool.and_eq_true, List.all_eq_true, decide_eq_true_eq] at hB
 obtain ⟨⟨⟨⟨⟨⟨⟨⟨⟨⟨⟨⟨hB1, hB2⟩, hB3⟩, hB4⟩, hB5⟩, hB6⟩, hB7⟩, n12⟩, ns⟩, n1s⟩, n1t⟩, n2s⟩, n2t⟩ := hB
 have hget : ∀ (i : Nat), l.toArray[i]? = l[i]? := fun i => by simp
 have hguard : ∀ (i : Nat) (o : Oper), l[i]? = some o → o.guard = none := fun i o ho => by
  have h1 := hB1 o (List.mem_of_getElem? ho)
  simpa using h1.1
 have hdlt : ∀ (i : Nat) (o : Oper) (d : Tmp), l[i]? = some o → o.dst = some d → d < a0.tmps.size := fun i o d ho hd => by
  have h1 := (hB1 o (List.mem_of_getElem? ho)).2
  rw [hd] at h1
  rw [hn]; simpa using h1
 have hedge : ∀ (i : Nat) (o : Oper), l[i]? = some o → (∀ e ∈ o.after, Region.binds .any e = true → e.on < i) ∧ (i ≠ s1 → i ≠ s2 → ∃ d, o.dst = some d) := fun i o ho => by
  have hi := (List.getElem?_eq_some_iff.1 ho).1
  have h1 := hB3 i (List.mem_range.2 hi)
  rw [ho] at h1
  simp only [Option.map_some, Option.getD_some, Bool.and_eq_true, Array.all_eq_true'] at h1
  refine ⟨fun e he hb => ?_, fun h2 h3 => ?_⟩
  ·have := h1.1 e he
   rw [hb] at this
   simpa using this
  ·have := h1.2
   simp only [h2, h3, decide_false, Bool.false_or] at this
   exact Option.isSome_iff_exists.1 this
 obtain ⟨o1, ho1, hd1⟩ : ∃ o, l[i1]? = some o ∧ o.dst = some d1 := by
  cases h : l[i1]? with
  | none => rw [h] at hB4; simp at hB4
  | some o => rw [h] at hB4; exact ⟨o, rfl, by simpa using hB4⟩
 obtain ⟨o2, ho2, hd2⟩ : ∃ o, l[i2]? = some o ∧ o.dst = some d2 := by
  cases h : l[i2]? with
  | none => rw [h] at hB5; simp at hB5
  | some o => rw [h] at hB5; exact ⟨o, rfl, by simpa using hB5⟩
 obtain ⟨p1, hp1, hq1, f1, hf1, hfb1, hfo1⟩ : ∃ o, l[s1]? = some o ∧ o.dst = none ∧ ∃ e ∈ o.after, Region.binds .any e = true ∧ e.on = i1 := by
  cases h : l[s1]? with
  | none => rw [h] at hB6; simp at hB6
  | some o =>
   rw [h] at hB6
   simp only [Option.map_some, Option.getD_some, Bool.and_eq_true, decide_eq_true_eq, Array.any_eq_true'] at hB6
   obtain ⟨h1, e, he, h2, h3⟩ := hB6
   exact ⟨o, rfl, h1, e, he, h2, h3⟩
 obtain ⟨p2, hp2, hq2, f2, hf2, hfb2, hfo2⟩ : ∃ o, l[s2]? = some o ∧ o.dst = none ∧ ∃ e ∈ o.after, Region.binds .any e = true ∧ e.on = i2 := by
  cases h : l[s2]? with
  | none => rw [h] at hB7; simp at hB7
  | some o =>
   rw [h] at hB7
   simp only [Option.map_some, Option.getD_some, Bool.and_eq_true, decide_eq_true_eq, Array.any_eq_true'] at hB7
   obtain ⟨h1, e, he, h2, h3⟩ := hB7
   exact ⟨o, rfl, h1, e, he, h2, h3⟩
 have hne := nodup_dst hB2
 refine wp_region_inv hm (fun listed a w1 => ∃ b1 b2, PairInv l i1 i2 s1 s2 d1 d2 c T Z X Y a0 w.drew b1 b2 listed a w1) ?_ ?_ ?_
 ·rintro listed a w1 ⟨b1, b2, inv⟩ hr
  have hl := all_of_readyB (fun i o ho => (hedge i o ho).1) listed inv.count hr
  have hlt : ∀ (i : Nat) (o : Oper), l[i]? = some o → listed.getD i false = true := fun i o ho => hl i (List.getElem?_eq_some_iff.1 ho).1
  obtain ⟨x1, x2, x3⟩ := inv.one (hlt i1 o1 ho1)
  obtain ⟨y1, y2, y3⟩ := inv.two (hlt i2 o2 ho2)
  rw [if_pos (hlt s1 p1 hp1)] at x3
  rw [if_pos (hlt s2 p2 hp2)] at y3
  have hfr := frame_all (a := a) (a0 := a0) (vals := fun k => if k = i1 then .pointer (some ⟨b1, 0, none⟩) else if k = i2 then .pointer (some ⟨b2, 0, none⟩) else c k) hne inv.size inv.defers (fun i o d hi hd => ?_) (fun d hd => inv.rest d (fun i o hi _ => hd o (List.mem_of_getElem? hi)))
  ·rw [hfr]
   exact hend w1 b1 b2 inv.kept (inv.apart (hlt i1 o1 ho1) (hlt i2 o2 ho2)) x2 y2 x3 y3
  ·by_cases h1 : i = i1
   ·subst h1
    rw [ho1] at hi
    cases hi
    rw [hd1] at hd
    cases hd
    simp only [if_true]
    exact x1
   ·by_cases h2 : i = i2
    ·subst h2
     rw [ho2] at hi
     cases hi
     rw [hd2] at hd
     cases hd
     simp only [if_neg h1, if_true]
     exact y1
    ·simp only [if_neg h1, if_neg h2]
     exact inv.done i o d hi (hlt i o hi) h1 h2 hd
 ·rintro listed a w1 i ⟨b1, b2, inv⟩ hi
  obtain ⟨hun, o, ho, hdeps⟩ := mem_ready.1 hi
  rw [hget] at ho
  have hil : i < listed.size := by rw [inv.count]; exact (List.getElem?_eq_some_iff.1 ho).1
  have hunf : listed.getD i false = false := by
   simp only [Array.getD, hil, dif_pos] at hun ⊢; exact hun
  have hset : ∀ j, (listed.setIfInBounds i true).getD j false = if i = j then true else listed.getD j false := fun j => getD_set listed i j hil
  have hup : UptoP l i1 i2 c a0 w.drew o a w1 := ⟨inv.kept, fun e he hb h1 h2 oj d hj hd => inv.done e.on oj d hj (hdeps e he hb) h1 h2 hd, fun d hd => inv.rest d (fun j oj hj _ => hd oj (List.mem_of_getElem? hj))⟩
  have hclosed : ∀ (j : Nat) (oj : Oper), l[j]? = some oj → (listed.setIfInBounds i true).getD j false = true → ∀ e ∈ oj.after, Region.binds .any e = true → (listed.setIfInBounds i true).getD e.on false = true := by
   intro j oj hj hlj e he hb
   rw [hset] at hlj ⊢
   by_cases hij : i = j
   ·subst hij
    rw [ho] at hj
    cases hj
    have := hdeps e he hb
    split
    ·rfl
    ·exact this
   ·rw [if_neg hij] at hlj
    have := inv.closed j oj hj hlj e he hb
    split
    ·rfl
    ·exact this
  unfold wpOp
  rw [hget, ho]
  simp only []
  have hw : Region.wanted o (yielded l.toArray a.tmps) = true := by simp [Region.wanted, hguard i o ho]
  rw [if_pos hw]
  left
  have hslot : ∀ (d : Tmp) (v : Value), o.dst = some d → ∀ (j : Nat) (oj : Oper) (dj : Tmp), l[j]? = some oj → oj.dst = some dj → j ≠ i → (a.put o.dst v).tmps[dj]? = a.tmps[dj]? := fun d v hd j oj dj hj hdj hji => by
   rw [hd, put_get, if_neg (fun e => hne i j o oj d ho hj (fun h => hji h.symm) hd (by rw [hdj, e]))]
  have hrestP : ∀ (d : Tmp) (v : Value), o.dst = some d → ∀ d' : Tmp, (∀ (j : Nat) (oj : Oper), l[j]? = some oj → (listed.setIfInBounds i true).getD j false = true → oj.dst ≠ some d') → (a.put o.dst v).tmps[d']? = a0.tmps[d']? := fun d v hd d' hd' => by
   have hdd : d ≠ d' := fun e => hd' i o ho (by rw [hset, if_pos rfl]) (by rw [hd, e])
   rw [hd, put_get, if_neg hdd]
   refine inv.rest d' (fun j oj hj hlj => hd' j oj hj ?_)
   rw [hset]
   split
   ·rfl
   ·exact hlj
  by_cases c1 : i = i1
  ·subst c1
   rw [ho1] at ho
   cases ho
   refine Oper.wp_mono ?_ (hal i o1 ho1 (Or.inl rfl) a w1)
   rintro a' w' ⟨rfl, rfl⟩
   have hK : Kept (fun _ => False) w1 (w1.alloc (.cells Z T)) := (Kept.refl _ w1).alloc _
   have hs1 : listed.getD s1 false = false := by
    cases h : listed.getD s1 false with
    | false => rfl
    | true =>
     have := inv.closed s1 p1 hp1 h f1 hf1 hfb1
     rw [hfo1, hunf] at this; cases this
   refine ⟨w1.heap.size, b2, by simp [inv.count], inv.kept.trans' hK, by rw [put_size]; exact inv.size, by rw [put_defers]; exact inv.defers, ?_, ?_, ?_, ?_, hrestP d1 _ hd1, hclosed⟩
   ·intro j oj dj hj hlj h1 h2 hdj
    rw [hset, if_neg (fun e => h1 e.symm)] at hlj
    rw [hslot d1 _ hd1 j oj dj hj hdj h1]
    exact inv.done j oj dj hj hlj h1 h2 hdj
   ·intro _
    refine ⟨by rw [hd1, put_get, if_pos rfl, if_pos (by rw [inv.size]; exact hdlt i o1 d1 ho1 hd1)], inv.kept.size, ?_⟩
    rw [hset, if_neg n1s, hs1]
    exact heap_alloc_new w1 _
   ·intro hl2
    rw [hset, if_neg n12] at hl2
    obtain ⟨y1, y2, y3⟩ := inv.two hl2
    refine ⟨by rw [hslot d1 _ hd1 i2 o2 d2 ho2 hd2 (fun e => n12 e.symm)]; exact y1, y2, ?_⟩
    rw [hset, if_neg n1t]
    exact hK.heap y3 (fun h => h)
   ·intro _ hl2
    rw [hset, if_neg n12] at hl2
    have := lt_of_heap (inv.two hl2).2.2
    omega
  ·by_cases c2 : i = i2
   ·subst c2
    rw [ho2] at ho
    cases ho
    refine Oper.wp_mono ?_ (hal i o2 ho2 (Or.inr rfl) a w1)
    rintro a' w' ⟨rfl, rfl⟩
    have hK : Kept (fun _ => False) w1 (w1.alloc (.cells Z T)) := (Kept.refl _ w1).alloc _
    have hs2 : listed.getD s2 false = false := by
     cases h : listed.getD s2 false with
     | false => rfl
     | true =>
      have := inv.closed s2 p2 hp2 h f2 hf2 hfb2
      rw [hfo2, hunf] at this; cases this
    refine ⟨b1, w1.heap.size, by simp [inv.count], inv.kept.trans' hK, by rw [put_size]; exact inv.size, by rw [put_defers]; exact inv.defers, ?_, ?_, ?_, ?_, hrestP d2 _ hd2, hclosed⟩
    ·intro j oj dj hj hlj h1 h2 hdj
     rw [hset, if_neg (fun e => h2 e.symm)] at hlj
     rw [hslot d2 _ hd2 j oj dj hj hdj h2]
     exact inv.done j oj dj hj hlj h1 h2 hdj
    ·intro hl1
     rw [hset, if_neg (fun e => n12 e.symm)] at hl1
     obtain ⟨y1, y2, y3⟩ := inv.one hl1
     refine ⟨by rw [hslot d2 _ hd2 i1 o1 d1 ho1 hd1 n12]; exact y1, y2, ?_⟩
     rw [hset, if_neg n2s]
     exact hK.heap y3 (fun h => h)
    ·intro _
     refine ⟨by rw [hd2, put_get, if_pos rfl, if_pos (by rw [inv.size]; exact hdlt i o2 d2 ho2 hd2)], inv.kept.size, ?_⟩
     rw [hset, if_neg n2t, hs2]
     exact heap_alloc_new w1 _
    ·intro hl1 _
     rw [hset, if_neg (fun e => n12 e.symm)] at hl1
     have := lt_of_heap (inv.one hl1).2.2
     omega
   ·by_cases c3 : i = s1
    ·subst c3
     rw [hp1] at ho
     cases ho
     have hl1 : listed.getD i1 false = true := by
      have := hdeps f1 hf1 hfb1
      rw [hfo1] at this; exact this
     obtain ⟨x1, x2, x3⟩ := inv.one hl1
     rw [hunf] at x3
     refine Oper.wp_mono ?_ (hst1 p1 hp1 a w1 b1 hup x1 x3)
     rintro a' w' ⟨rfl, hk, hx⟩
     refine ⟨b1, b2, by simp [inv.count], inv.kept.trans hk (fun j hj e => ?_), inv.size, inv.defers, ?_, ?_, ?_, ?_, ?_, hclosed⟩
     ·have : j < w.drew.heap.size := hj
      omega
     ·intro j oj dj hj hlj h1 h2 hdj
      refine inv.done j oj dj hj ?_ h1 h2 hdj
      rw [hset] at hlj
      by_cases hij : i = j
      ·subst hij
       rw [hp1] at hj
       cases hj
       rw [hq1] at hdj; cases hdj
      ·rw [if_neg hij] at hlj; exact hlj
     ·intro _
      refine ⟨x1, x2, ?_⟩
      rw [hset, if_pos rfl, if_pos rfl]
      exact hx
     ·intro hl2
      rw [hset, if_neg (fun e => n2s e.symm)] at hl2
      obtain ⟨y1, y2, y3⟩ := inv.two hl2
      refine ⟨y1, y2, ?_⟩
      rw [hset, if_neg ns]
      exact hk.heap y3 (fun e => inv.apart hl1 hl2 e.symm)
     ·intro _ hl2
      rw [hset, if_neg (fun e => n2s e.symm)] at hl2
      exact inv.apart hl1 hl2
     ·intro d' hd'
      refine inv.rest d' (fun j oj hj hlj => hd' j oj hj ?_)
      rw [hset]
      split
      ·rfl
      ·exact hlj
    ·by_cases c4 : i = s2
     ·subst c4
      rw [hp2] at ho
      cases ho
      have hl2 : listed.getD i2 false = true := by
       have := hdeps f2 hf2 hfb2
       rw [hfo2] at this; exact this
      obtain ⟨y1, y2, y3⟩ := inv.two hl2
      rw [hunf] at y3
      refine Oper.wp_mono ?_ (hst2 p2 hp2 a w1 b2 hup y1 y3)
      rintro a' w' ⟨rfl, hk, hx⟩
      refine ⟨b1, b2, by simp [inv.count], inv.kept.trans hk (fun j hj e => ?_), inv.size, inv.defers, ?_, ?_, ?_, ?_, ?_, hclosed⟩
      ·have : j < w.drew.heap.size := hj
       omega
      ·intro j oj dj hj hlj h1 h2 hdj
       refine inv.done j oj dj hj ?_ h1 h2 hdj
       rw [hset] at hlj
       by_cases hij : i = j
       ·subst hij
        rw [hp2] at hj
        cases hj
        rw [hq2] at hdj; cases hdj
       ·rw [if_neg hij] at hlj; exact hlj
      ·intro hl1
       rw [hset, if_neg (fun e => n1t e.symm)] at hl1
       obtain ⟨x1, x2, x3⟩ := inv.one hl1
       refine ⟨x1, x2, ?_⟩
       rw [hset, if_neg c3]
       exact hk.heap x3 (fun e => inv.apart hl1 hl2 e)
      ·intro _
       refine ⟨y1, y2, ?_⟩
       rw [hset, if_pos rfl, if_pos rfl]
       exact hx
      ·intro hl1 _
       rw [hset, if_neg (fun e => n1t e.symm)] at hl1
       exact inv.apart hl1 hl2
      ·intro d' hd'
       refine inv.rest d' (fun j oj hj hlj => hd' j oj hj ?_)
       rw [hset]
       split
       ·rfl
       ·exact hlj
     ·obtain ⟨d, hd⟩ := (hedge i o ho).2 c3 c4
      refine Oper.wp_mono ?_ (hread i o ho c1 c2 c3 c4 a w1 hup)
      rintro a' w' ⟨rfl, rfl⟩
      refine ⟨b1, b2, by simp [inv.count], inv.kept, by rw [put_size]; exact inv.size, by rw [put_defers]; exact inv.defers, ?_, ?_, ?_, ?_, hrestP d _ hd, hclosed⟩
      ·intro j oj dj hj hlj h1 h2 hdj
       rw [hset] at hlj
       by_cases hij : i = j
       ·subst hij
        rw [ho] at hj
        cases hj
        rw [hd] at hdj
        cases hdj
        rw [hd, put_get, if_pos rfl, if_pos (by rw [inv.size]; exact hdlt i o d ho hd)]
       ·rw [if_neg hij] at hlj
        rw [hslot d _ hd j oj dj hj hdj (fun e => hij e.symm)]
        exact inv.done j oj dj hj hlj h1 h2 hdj
      ·intro hl1
       rw [hset, if_neg c1] at hl1
       obtain ⟨x1, x2, x3⟩ := inv.one hl1
       refine ⟨by rw [hslot d _ hd i1 o1 d1 ho1 hd1 (fun e => c1 e.symm)]; exact x1, x2, ?_⟩
       rw [hset, if_neg c3]
       exact x3
      ·intro hl2
       rw [hset, if_neg c2] at hl2
       obtain ⟨y1, y2, y3⟩ := inv.two hl2
       refine ⟨by rw [hslot d _ hd i2 o2 d2 ho2 hd2 (fun e => c2 e.symm)]; exact y1, y2, ?_⟩
       rw [hset, if_neg c4]
       exact y3
      ·intro hl1 hl2
       rw [hset, if_neg c1] at hl1
       rw [hset, if_neg c2] at hl2
       exact inv.apart hl1 hl2
 ·have hz : ∀ i, (Array.replicate l.toArray.size false).getD i false = false := fun i => by
   simp only [Array.getD_eq_getD_getElem?, Array.getElem?_replicate]
   split <;> rfl
  refine ⟨0, 0, by simp, Kept.refl _ _, rfl, rfl, fun i o d _ hl => ?_, fun hl => ?_, fun hl => ?_, fun hl => ?_, fun d _ => rfl, fun i o _ hl => ?_⟩
  all_goals (rw [hz] at hl; cases hl)
structure UptoS (l : List Oper) (c : Nat → Value) (a0 : Act) (o : Oper) (a : Act) : Prop where
 dep : ∀ e ∈ o.after, Region.binds .any e = true → ∀ (oj : Oper) (d : Tmp), l[e.on]? = some oj → oj.dst = some d → a.tmps[d]? = some (c e.on)
 old : ∀ d : Tmp, (∀ oj ∈ l, oj.dst ≠ some d) → a.tmps[d]? = a0.tmps[d]?
def waitsOn (l : List Oper) (s i : Nat) : Bool := ((l[s]?).map fun o => o.after.any fun e => Region.binds .any e && decide (e.on = i)).getD false
def storesRegion (l : List Oper) (size s1 s2 : Nat) : Bool :=
 (l.all fun o => o.guard.isNone && (match o.dst with | some d => decide (d < size) | none => true)) && decide ((l.filterMap fun o => o.dst).Nodup) &&
 ((List.range l.length).all fun i => ((l[i]?).map fun o => (o.after.all fun e => !Region.binds .any e || decide (e.on < i)) && (decide (i = s1) || decide (i = s2) || o.dst.isSome)).getD true) &&
 (((l[s1]?).map fun o => decide (o.dst = none)).getD false) && (((l[s2]?).map fun o => decide (o.dst = none)).getD false) && waitsOn l s2 s1 && decide (s1 ≠ s2)
structure StoresInv (l : List Oper) (s1 s2 : Nat) (c : Nat → Value) (a0 : Act) (w0 w2 w3 : World) (listed : Array Bool) (a : Act) (w : World) : Prop where
 count : listed.size = l.length
 world : w = if listed.getD s2 false = true then w3 else if listed.getD s1 false = true then w2 else w0
 size : a.tmps.size = a0.tmps.size
 defers : a.defers = a0.defers
 done : ∀ (i : Nat) (o : Oper) (d : Tmp), l[i]? = some o → listed.getD i false = true → o.dst = some d → a.tmps[d]? = some (c i)
 rest : ∀ d : Tmp, (∀ (i : Nat) (o : Oper), l[i]? = some o → listed.getD i false = true → o.dst ≠ some d) → a.tmps[d]? = a0.tmps[d]?
 closed : ∀ (i : Nat) (o : Oper), l[i]? = some o → listed.getD i false = true → ∀ e ∈ o.after, Region.binds .any e = true → listed.getD e.on false = true
theorem wp_region_stores {P : Program} {Q : Exit → Act → World → Prop} {id : Nat} {a0 : Act} {w : World} {l : List Oper} (hm : P.follows .mixedOrders = true) (n s1 s2 : Nat) (hn : a0.tmps.size = n) (hB : storesRegion l n s1 s2 = true) (c : Nat → Value) (w2 w3 : World)
  (hread : ∀ (i : Nat) (o : Oper), l[i]? = some o → i ≠ s1 → i ≠ s2 → ∀ a, UptoS l c a0 o a → ∀ W, (W = w.drew ∨ (W = w2 ∧ waitsOn l s1 i = false) ∨ (W = w3 ∧ waitsOn l s2 i = false)) → o.wp P a W (fun a' w' => a' = a.put o.dst (c i) ∧ w' = W) Q)
  (hs1 : ∀ o : Oper, l[s1]? = some o → ∀ a, UptoS l c a0 o a → o.wp P a w.drew (fun a' w' => a' = a ∧ w' = w2) Q)
  (hs2 : ∀ o : Oper, l[s2]? = some o → ∀ a, UptoS l c a0 o a → o.wp P a w2 (fun a' w' => a' = a ∧ w' = w3) Q)
  (hend : Q .normal (putAll a0 l 0 c) w3) :
  (Code.region id l.toArray true).wp P Q a0 w := by
 simp only [storesRegion, Bool.and_eq_true, List.all_eq_true, decide_eq_true_eq] at hB
 obtain ⟨⟨⟨⟨⟨⟨hB1, hB2⟩, hB3⟩, hB4⟩, hB5⟩, hB6⟩, ns⟩ := hB
 have hget : ∀ (i : Nat), l.toArray[i]? = l[i]? := fun i => by simp
 have hguard : ∀ (i : Nat) (o : Oper), l[i]? = some o → o.guard = none := fun i o ho => by
  have h1 := hB1 o (List.mem_of_getElem? ho)
  simpa using h1.1
 have hdlt : ∀ (i : Nat) (o : Oper) (d : Tmp), l[i]? = some o → o.dst = some d → d < a0.tmps.size := fun i o d ho hd => by
  have h1 := (hB1 o (List.mem_of_getElem? ho)).2
  rw [hd] at h1
  rw [hn]; simpa using h1
 have hedge : ∀ (i : Nat) (o : Oper), l[i]? = some o → (∀ e ∈ o.after, Region.binds .any e = true → e.on < i) ∧ (i ≠ s1 → i ≠ s2 → ∃ d, o.dst = some d) := fun i o ho => by
  have hi := (List.getElem?_eq_some_iff.1 ho).1
  have h1 := hB3 i (List.mem_range.2 hi)
  rw [ho] at h1
  simp only [Option.map_some, Option.getD_some, Bool.and_eq_true, Array.all_eq_true'] at h1
  refine ⟨fun e he hb => ?_, fun h2 h3 => ?_⟩
  ·have := h1.1 e he
   rw [hb] at this
   simpa using this
  ·have := h1.2
   simp only [h2, h3, decide_false, Bool.false_or] at this
   exact Option.isSome_iff_exists.1 this
 have hwait : ∀ s i, waitsOn l s i = true → ∃ o, l[s]? = some o ∧ ∃ e ∈ o.after, Region.binds .any e = true ∧ e.on = i := fun s i h => by
  unfold waitsOn at h
  cases hs : l[s]? with
  | none => rw [hs] at h; simp at h
  | some o =>
   rw [hs] at h
   simp only [Option.map_some, Option.getD_some, Array.any_eq_true', Bool.and_eq_true, decide_eq_true_eq] at h
   exact ⟨o, rfl, h⟩
 obtain ⟨p1, hp1, hq1⟩ : ∃ o, l[s1]? = some o ∧ o.dst = none := by
  cases h : l[s1]? with
  | none => rw [h] at hB4; simp at hB4
  | some o => rw [h] at hB4; exact ⟨o, rfl, by simpa using hB4⟩
 obtain ⟨p2, hp2, hq2⟩ : ∃ o, l[s2]? = some o ∧ o.dst = none := by
  cases h : l[s2]? with
  | none => rw [h] at hB5; simp at hB5
  | some o => rw [h] at hB5; exact ⟨o, rfl, by simpa using hB5⟩
 have hne := nodup_dst hB2
 refine wp_region_inv hm (fun listed a w1 => StoresInv l s1 s2 c a0 w.drew w2 w3 listed a w1) ?_ ?_ ?_
 ·rintro listed a w1 inv hr
  have hl := all_of_readyB (fun i o ho => (hedge i o ho).1) listed inv.count hr
  have hlt : ∀ (i : Nat) (o : Oper), l[i]? = some o → listed.getD i false = true := fun i o ho => hl i (List.getElem?_eq_some_iff.1 ho).1
  have hfr := frame_all (a := a) (a0 := a0) (vals := c) hne inv.size inv.defers (fun i o d hi hd => inv.done i o d hi (hlt i o hi) hd) (fun d hd => inv.rest d (fun i o hi _ => hd o (List.mem_of_getElem? hi)))
  rw [hfr, inv.world, if_pos (hlt s2 p2 hp2)]
  exact hend
 ·rintro listed a w1 i inv hi
  obtain ⟨hun, o, ho, hdeps⟩ := mem_ready.1 hi
  rw [hget] at ho
  have hil : i < listed.size := by rw [inv.count]; exact (List.getElem?_eq_some_iff.1 ho).1
  have hunf : listed.getD i false = false := by
   simp only [Array.getD, hil, dif_pos] at hun ⊢; exact hun
  have hset : ∀ j, (listed.setIfInBounds i true).getD j false = if i = j then true else listed.getD j false := fun j => getD_set listed i j hil
  have hup : UptoS l c a0 o a := ⟨fun e he hb oj d hj hd => inv.done e.on oj d hj (hdeps e he hb) hd, fun d hd => inv.rest d (fun j oj hj _ => hd oj (List.mem_of_getElem? hj))⟩
  have hclosed : ∀ (j : Nat) (oj : Oper), l[j]? = some oj → (listed.setIfInBounds i true).getD j false = true → ∀ e ∈ oj.after, Region.binds .any e = true → (listed.setIfInBounds i true).getD e.on false = true := by
   intro j oj hj hlj e he hb
   rw [hset] at hlj ⊢
   by_cases hij : i = j
   ·subst hij
    rw [ho] at hj
    cases hj
    have := hdeps e he hb
    split
    ·rfl
    ·exact this
   ·rw [if_neg hij] at hlj
    have := inv.closed j oj hj hlj e he hb
    split
    ·rfl
    ·exact this
  have hnot : ∀ s, waitsOn l s i = true → listed.getD s false = false := fun s hs => by
   obtain ⟨os, hos, e, he, hb, hon⟩ := hwait s i hs
   cases h : listed.getD s false with
   | false => rfl
   | true =>
    have := inv.closed s os hos h e he hb
    rw [hon, hunf] at this; cases this
  have hdoneS : o.dst = none → (∀ (j : Nat) (oj : Oper) (d : Tmp), l[j]? = some oj → (listed.setIfInBounds i true).getD j false = true → oj.dst = some d → a.tmps[d]? = some (c j)) ∧ (∀ d : Tmp, (∀ (j : Nat) (oj : Oper), l[j]? = some oj → (listed.setIfInBounds i true).getD j false = true → oj.dst ≠ some d) → a.tmps[d]? = a0.tmps[d]?) := fun hq => by
   refine ⟨fun j oj d hj hlj hd => ?_, fun d hd => inv.rest d (fun j oj hj hlj => hd j oj hj ?_)⟩
   ·rw [hset] at hlj
    by_cases hij : i = j
    ·subst hij
     rw [ho] at hj
     cases hj
     rw [hq] at hd; cases hd
    ·rw [if_neg hij] at hlj
     exact inv.done j oj d hj hlj hd
   ·rw [hset]
    split
    ·rfl
    ·exact hlj
  unfold wpOp
  rw [hget, ho]
  simp only []
  have hw : Region.wanted o (yielded l.toArray a.tmps) = true := by simp [Region.wanted, hguard i o ho]
  rw [if_pos hw]
  left
  by_cases c1 : i = s1
  ·subst c1
   rw [hp1] at ho
   cases ho
   have h2 := hnot s2 hB6
   have hw1 : w1 = w.drew := by
    have := inv.world
    rw [h2, hunf] at this
    exact this
   subst hw1
   refine Oper.wp_mono ?_ (hs1 p1 hp1 a hup)
   rintro a' w' ⟨rfl, rfl⟩
   obtain ⟨d1, d2⟩ := hdoneS hq1
   refine ⟨by simp [inv.count], ?_, inv.size, inv.defers, d1, d2, hclosed⟩
   rw [hset s2, if_neg ns, h2, hset i, if_pos rfl]
   rfl
  ·by_cases c2 : i = s2
   ·subst c2
    rw [hp2] at ho
    cases ho
    have h1 : listed.getD s1 false = true := by
     obtain ⟨os, hos, e, he, hb, hon⟩ := hwait i s1 hB6
     rw [hp2] at hos
     cases hos
     have := hdeps e he hb
     rw [hon] at this; exact this
    have hw1 : w1 = w2 := by
     have := inv.world
     rw [hunf, h1] at this
     exact this
    subst hw1
    refine Oper.wp_mono ?_ (hs2 p2 hp2 a hup)
    rintro a' w' ⟨rfl, rfl⟩
    obtain ⟨d1, d2⟩ := hdoneS hq2
    refine ⟨by simp [inv.count], ?_, inv.size, inv.defers, d1, d2, hclosed⟩
    rw [hset i, if_pos rfl, if_pos rfl]
   ·obtain ⟨d, hd⟩ := (hedge i o ho).2 c1 c2
    have hW : w1 = w.drew ∨ (w1 = w2 ∧ waitsOn l s1 i = false) ∨ (w1 = w3 ∧ waitsOn l s2 i = false) := by
     have hwd := inv.world
     by_cases h2 : listed.getD s2 false = true
     ·rw [if_pos h2] at hwd
      refine Or.inr (Or.inr ⟨hwd, ?_⟩)
      cases h : waitsOn l s2 i with
      | false => rfl
      | true => have := hnot s2 h; rw [h2] at this; cases this
     ·rw [if_neg h2] at hwd
      by_cases h1 : listed.getD s1 false = true
      ·rw [if_pos h1] at hwd
       refine Or.inr (Or.inl ⟨hwd, ?_⟩)
       cases h : waitsOn l s1 i with
       | false => rfl
       | true => have := hnot s1 h; rw [h1] at this; cases this
      ·rw [if_neg h1] at hwd
       exact Or.inl hwd
    refine Oper.wp_mono ?_ (hread i o ho c1 c2 a hup w1 hW)
    rintro a' w' ⟨rfl, rfl⟩
    refine ⟨by simp [inv.count], ?_, by rw [put_size]; exact inv.size, by rw [put_defers]; exact inv.defers, ?_, ?_, hclosed⟩
    ·rw [hset s2, if_neg c2, hset s1, if_neg c1]
     exact inv.world
    ·intro j oj dj hj hlj hdj
     rw [hset] at hlj
     by_cases hij : i = j
     ·subst hij
      rw [ho] at hj
      cases hj
      rw [hd] at hdj
      cases hdj
      rw [hd, put_get, if_pos rfl, if_pos (by rw [inv.size]; exact hdlt i o d ho hd)]
     ·rw [if_neg hij] at hlj
      rw [hd, put_get, if_neg (fun e => hne i j o oj d ho hj hij hd (by rw [hdj, e]))]
      exact inv.done j oj dj hj hlj hdj
    ·intro d' hd'
     have hdd : d ≠ d' := fun e => hd' i o ho (by rw [hset, if_pos rfl]) (by rw [hd, e])
     rw [hd, put_get, if_neg hdd]
     refine inv.rest d' (fun j oj hj hlj => hd' j oj hj ?_)
     rw [hset]
     split
     ·rfl
     ·exact hlj
 ·have hz : ∀ i, (Array.replicate l.toArray.size false).getD i false = false := fun i => by
   simp only [Array.getD_eq_getD_getElem?, Array.getElem?_replicate]
   split <;> rfl
  refine ⟨by simp, ?_, rfl, rfl, fun i o d _ hl => ?_, fun d _ => rfl, fun i o _ hl => ?_⟩
  ·rw [hz, hz]; rfl
  all_goals (rw [hz] at hl; cases hl)
def plainRegionB (l : List Oper) (size : Nat) : Bool :=
 (l.all fun o => o.guard.isNone && (match o.dst with | some d => decide (d < size) | none => false)) && decide ((l.map fun o => o.dst).Nodup) && ((List.range l.length).all fun i => ((l[i]?).map fun o => o.after.all fun e => !Region.binds .any e || decide (e.on < i)).getD true)
theorem all_of_readyA {ops : Array Oper} (hr : ∀ (i : Nat) (o : Oper), ops[i]? = some o → ∀ e ∈ o.after, Region.binds .any e = true → e.on < i) (listed : Array Bool) (hs : listed.size = ops.size) (h : Region.ready .any ops listed = []) : ∀ i, i < ops.size → listed.getD i false = true := by
 intro i
 induction i using Nat.strongRecOn with
 | _ i ih =>
  intro hi
  by_cases hl : listed.getD i false = true
  ·exact hl
  ·exfalso
   have hil : i < listed.size := by omega
   have hm : i ∈ Region.ready .any ops listed := by
    refine mem_ready.2 ⟨?_, ops[i], Array.getElem?_eq_getElem hi, fun e he hb => ?_⟩
    ·simp only [Array.getD, hil, dif_pos] at hl ⊢; simpa using hl
    ·have h2 := hr i ops[i] (Array.getElem?_eq_getElem hi) e he hb
     exact ih e.on h2 (by omega)
   rw [h] at hm; cases hm
section
variable {P : Program} {ops : Array Oper} {Q : Exit → Act → World → Prop}
theorem wp_region_claimsB {id : Nat} {a0 : Act} {w : World} (hm : P.follows .mixedOrders = true) (V : Nat → Value → World → Prop)
  (hV : ∀ i v w w', V i v w → Kept (fun _ => False) w w' → V i v w')
  (hd : ∀ (i : Nat) (o : Oper), ops[i]? = some o → o.guard = none ∧ ∃ d, o.dst = some d ∧ d < a0.tmps.size)
  (hne : ∀ (i j : Nat) (o u : Oper), ops[i]? = some o → ops[j]? = some u → i ≠ j → o.dst ≠ u.dst)
  (hop : ∀ (i : Nat) (o : Oper), ops[i]? = some o → ∀ a w1, Upto ops V a0 (w.drew) i o a w1 → o.wp P a w1 (fun a' w' => ∃ v, a' = a.put o.dst v ∧ V i v w' ∧ Kept (fun _ => False) w1 w') Q)
  (hend : ∀ a w1, Kept (fun _ => False) w.drew w1 → a.tmps.size = a0.tmps.size → a.defers = a0.defers → (∀ (i : Nat) (o : Oper) (d : Tmp), ops[i]? = some o → o.dst = some d → ∃ v, a.tmps[d]? = some v ∧ V i v w1) →
   (∀ d : Tmp, (∀ (i : Nat) (o : Oper), ops[i]? = some o → o.dst ≠ some d) → a.tmps[d]? = a0.tmps[d]?) → Q .normal a w1)
  (hrise : ∀ (i : Nat) (o : Oper), ops[i]? = some o → ∀ e ∈ o.after, Region.binds .any e = true → e.on < i) :
  (Code.region id ops true).wp P Q a0 w := by
 refine wp_region_inv hm (ByClaims ops V a0 w.drew) ?_ ?_ ?_
 ·intro listed a w1 inv hr
  have hl := all_of_readyA hrise listed inv.count hr
  refine hend a w1 inv.kept inv.size inv.defers (fun i o d hi hdd => inv.done i o d hi (hl i ?_) hdd) (fun d hdd => inv.rest d (fun i o hi _ => hdd i o hi))
  exact (Array.getElem?_eq_some_iff.1 hi).1
 ·intro listed a w1 i inv hi
  obtain ⟨hun, o, ho, hdeps⟩ := mem_ready.1 hi
  obtain ⟨hg, d, hdo, hdl⟩ := hd i o ho
  have hil : i < listed.size := by rw [inv.count]; exact (Array.getElem?_eq_some_iff.1 ho).1
  have hunf : listed.getD i false = false := by
   simp only [Array.getD, hil, dif_pos] at hun ⊢; exact hun
  have hup : Upto ops V a0 w.drew i o a w1 := by
   refine ⟨inv.kept, inv.size, inv.defers, fun e he hb oj dj hj hdj => inv.done e.on oj dj hj (hdeps e he hb) hdj, fun d' hd' => inv.rest d' (fun j oj hj hlj hdj => ?_)⟩
   rcases hd' j oj hj hdj with rfl | ⟨e, he, hb, hei⟩
   ·rw [hunf] at hlj; cases hlj
   ·have := inv.closed j oj hj hlj e he hb
    rw [hei, hunf] at this; cases this
  unfold wpOp
  simp only [ho]
  have hw : Region.wanted o (yielded ops a.tmps) = true := by simp [Region.wanted, hg]
  rw [if_pos hw]
  left
  refine Oper.wp_mono ?_ (hop i o ho a w1 hup)
  rintro a' w' ⟨v, rfl, hv, hk⟩
  rw [hdo]
  refine ⟨by simp [inv.count], inv.kept.trans' hk, by simp [Act.put, inv.size], inv.defers, ?_, ?_, ?_⟩
  ·intro j oj dj hj hlj hdj
   rw [getD_set _ _ _ hil] at hlj
   by_cases hij : i = j
   ·subst hij
    rw [ho] at hj
    cases hj
    rw [hdo] at hdj
    cases hdj
    exact ⟨v, by rw [put_get, if_pos rfl, if_pos (by rw [inv.size]; exact hdl)], hv⟩
   ·rw [if_neg hij] at hlj
    obtain ⟨u, hu, hvu⟩ := inv.done j oj dj hj hlj hdj
    refine ⟨u, ?_, hV _ _ _ _ hvu hk⟩
    rw [put_get, if_neg (fun e => hne i j o oj ho hj hij (by rw [hdo, hdj, e]))]
    exact hu
  ·intro d' hd'
   have hdd : d ≠ d' := fun e => hd' i o ho (by rw [getD_set _ _ _ hil, if_pos rfl]) (by rw [hdo, e])
   rw [put_get, if_neg hdd]
   refine inv.rest d' (fun j oj hj hlj => hd' j oj hj ?_)
   rw [getD_set _ _ _ hil]
   split
   ·rfl
   ·exact hlj
  ·intro j oj hj hlj e he hb
   rw [getD_set _ _ _ hil] at hlj ⊢
   by_cases hij : i = j
   ·subst hij
    rw [ho] at hj
    cases hj
    have := hdeps e he hb
    split
    ·rfl
    ·exact this
   ·rw [if_neg hij] at hlj
    have := inv.closed j oj hj hlj e he hb
    split
    ·rfl
    ·exact this
 ·refine ⟨by simp, Kept.refl _ _, rfl, rfl, ?_, fun d _ => rfl, ?_⟩
  ·intro i o d _ hl _
   exfalso
   simp only [Array.getD_eq_getD_getElem?, Array.getElem?_replicate] at hl
   split at hl <;> simp at hl
  ·intro i o _ hl
   exfalso
   simp only [Array.getD_eq_getD_getElem?, Array.getElem?_replicate] at hl
   split at hl <;> simp at hl
end
theorem wp_region_byB {P : Program} {Q : Exit → Act → World → Prop} {id : Nat} {a0 : Act} {w : World} {l : List Oper} (hm : P.follows .mixedOrders = true) (n : Nat) (hn : a0.tmps.size = n) (hB : plainRegionB l n = true) (V : Nat → Value → World → Prop)
  (hV : ∀ i v w w', V i v w → Kept (fun _ => False) w w' → V i v w')
  (hop : ∀ (i : Nat) (o : Oper), l[i]? = some o → ∀ a w1, Upto l.toArray V a0 (w.drew) i o a w1 → o.wp P a w1 (fun a' w' => ∃ v, a' = a.put o.dst v ∧ V i v w' ∧ Kept (fun _ => False) w1 w') Q)
  (hend : ∀ (vals : Nat → Value) w1, Kept (fun _ => False) w.drew w1 → (∀ i, i < l.length → V i (vals i) w1) → Q .normal (putAll a0 l 0 vals) w1) :
  (Code.region id l.toArray true).wp P Q a0 w := by
 simp only [plainRegionB, Bool.and_eq_true, List.all_eq_true, decide_eq_true_eq] at hB
 obtain ⟨⟨hB1, hB2⟩, hB3⟩ := hB
 have hget : ∀ (i : Nat), l.toArray[i]? = l[i]? := fun i => by simp
 have hdst : ∀ (i : Nat) (o : Oper), l.toArray[i]? = some o → o.guard = none ∧ ∃ d, o.dst = some d ∧ d < a0.tmps.size := by
  intro i o ho
  rw [hget] at ho
  have h1 := hB1 o (List.mem_of_getElem? ho)
  refine ⟨by simpa using h1.1, ?_⟩
  cases hd : o.dst with
  | none => rw [hd] at h1; simp at h1
  | some d => rw [hd] at h1; exact ⟨d, rfl, by rw [hn]; simpa using h1.2⟩
 have hB3' : ∀ (i : Nat) (o : Oper), l.toArray[i]? = some o → ∀ e ∈ o.after, Region.binds .any e = true → e.on < i := fun i o ho e he hb => by
  rw [hget] at ho
  have hi := (List.getElem?_eq_some_iff.1 ho).1
  have h1 := hB3 i (List.mem_range.2 hi)
  rw [ho] at h1
  simp only [Option.map_some, Option.getD_some, Array.all_eq_true'] at h1
  have h2 := h1 e he
  rw [hb] at h2
  simpa using h2
 have hpw : l.Pairwise fun o u => o.dst ≠ u.dst := by
  rw [List.Nodup, List.pairwise_map] at hB2; exact hB2
 refine wp_region_claimsB hm V hV hdst ?_ (fun i o ho => hop i o (by rw [← hget]; exact ho)) ?_ hB3'
 ·intro i j o u ho hu hij
  rw [hget] at ho hu
  obtain ⟨hi, rfl⟩ := List.getElem?_eq_some_iff.1 ho
  obtain ⟨hj, rfl⟩ := List.getElem?_eq_some_iff.1 hu
  rcases Nat.lt_or_ge i j with h1 | h1
  ·exact List.pairwise_iff_getElem.1 hpw i j hi hj h1
  ·exact (List.pairwise_iff_getElem.1 hpw j i hj hi (by omega)).symm
 ·intro a w1 hk hsz hdf hdone hrest
  obtain ⟨vals, hvals⟩ : ∃ vals : Nat → Value, ∀ i (o : Oper) d, l[i]? = some o → o.dst = some d → a.tmps[d]? = some (vals i) ∧ V i (vals i) w1 := by
   refine ⟨fun i => match l[i]? with | some o => (match o.dst with | some d => (a.tmps[d]?).getD undef | none => undef) | none => undef, ?_⟩
   intro i o d hi hd
   obtain ⟨v, h1, h2⟩ := hdone i o d (by rw [hget]; exact hi) hd
   simp only [hi, hd, h1, Option.getD_some]
   exact ⟨trivial, h2⟩
  have hfr : a = putAll a0 l 0 vals := by
   have h1 := putAll_size l a0 0 vals
   have ht : a.tmps = (putAll a0 l 0 vals).tmps := by
    apply Array.ext_getElem?
    intro d
    by_cases hx : ∃ (i : Nat) (o : Oper), l[i]? = some o ∧ o.dst = some d
    ·obtain ⟨i, o, hi, hd⟩ := hx
     obtain ⟨_, d', hd', hlt⟩ := hdst i o (by rw [hget]; exact hi)
     rw [hd] at hd'; cases hd'
     rw [putAll_done l a0 0 vals hpw i o d hi hd hlt, (hvals i o d hi hd).1, Nat.zero_add]
    ·rw [putAll_rest l a0 0 vals d (fun o ho hd => by
      obtain ⟨i, hi, rfl⟩ := List.getElem_of_mem ho
      exact hx ⟨i, _, List.getElem?_eq_getElem hi, hd⟩)]
     exact hrest d (fun i o ho hd => hx ⟨i, o, by rw [← hget]; exact ho, hd⟩)
   have hd2 : a.defers = (putAll a0 l 0 vals).defers := by rw [hdf, h1.2]
   cases a
   simp only at ht hd2
   rw [ht, hd2]
  rw [hfr]
  refine hend vals w1 hk (fun i hi => ?_)
  obtain ⟨_, d, hd, _⟩ := hdst i l[i] (by rw [hget]; exact List.getElem?_eq_getElem hi)
  exact (hvals i l[i] d (List.getElem?_eq_getElem hi) hd).2
def risingBind (ops : Array Oper) : Bool := (List.range ops.size).all fun i => ((ops[i]?).map fun o => o.after.all fun e => !Region.binds .any e || decide (e.on < i)).getD true
theorem rise_of {ops : Array Oper} (hr : risingBind ops = true) : ∀ (i : Nat) (o : Oper), ops[i]? = some o → ∀ e ∈ o.after, Region.binds .any e = true → e.on < i := by
 intro i o ho e he hb
 have hil := (Array.getElem?_eq_some_iff.1 ho).1
 have h2 := List.all_eq_true.1 hr i (List.mem_range.2 hil)
 rw [ho] at h2
 simp only [Option.map_some, Option.getD_some, Array.all_eq_true'] at h2
 have h3 := h2 e he
 simpa [hb] using h3
theorem reach_ltA {ops : Array Oper} (hr : ∀ (i : Nat) (o : Oper), ops[i]? = some o → ∀ e ∈ o.after, Region.binds .any e = true → e.on < i) : ∀ (f i j : Nat), reachB ops f i j = true → j < i := by
 intro f
 induction f with
 | zero => intro i j h; cases h
 | succ f ih =>
  intro i j h
  obtain ⟨o, _, ho, _⟩ := reach_op h
  obtain ⟨e, he, hb, h1⟩ := reach_some ho h
  have h3 := hr i o ho e he hb
  rcases h1 with h1 | h1
  ·omega
  ·have := ih _ _ h1; omega
theorem reach_firstA {ops : Array Oper} (hr : ∀ (i : Nat) (o : Oper), ops[i]? = some o → ∀ e ∈ o.after, Region.binds .any e = true → e.on < i) (f i j : Nat) (o : Oper) (ho : ops[i]? = some o) (h : reachB ops f i j = true) : ∃ e ∈ o.after, Region.binds .any e = true ∧ j ≤ e.on := by
 obtain ⟨_, g, _, rfl⟩ := reach_op h
 obtain ⟨e, he, hb, h1⟩ := reach_some ho h
 refine ⟨e, he, hb, ?_⟩
 rcases h1 with h1 | h1
 ·omega
 ·exact Nat.le_of_lt (reach_ltA hr _ _ _ h1)
def sealRegion (l : List Oper) (n1 s size : Nat) : Bool :=
 ((List.range n1).all fun i => match l[i]? with | some o => o.guard.isNone && (match o.dst with | some d => decide (d < size) | none => decide (i = s)) | none => true) && (match l[s]? with | some o => o.dst.isNone | none => false) && decide (((l.take n1).map fun o => o.dst).Nodup) && risingBind l.toArray && tailWaitsT l.toArray n1 && decide (n1 ≤ l.length)
theorem wp_region_seal {P : Program} {Q : Exit → Act → World → Prop} {id : Nat} {a0 : Act} {w : World} {l : List Oper} (hm : P.follows .mixedOrders = true) (n1 n : Nat) (hn : a0.tmps.size = n) (S : Nat → Prop) (s : Nat) (hB : sealRegion l n1 s n = true) (V : Nat → Value → World → Prop)
  (hV : ∀ i v w w', V i v w → Kept (fun _ => False) w w' → V i v w') (hVS : ∀ i v w w', i ≠ s → V i v w → Kept S w w' → V i v w')
  (hVs : ∀ v v' w, V s v w → V s v' w)
  (hop : ∀ (i : Nat) (o : Oper), i < n1 → i ≠ s → l[i]? = some o → ∀ a w1, Kept S w.drew w1 → UptoT l.toArray V a0 i o a w1 → o.wp P a w1 (fun a' w' => ∃ v, a' = a.put o.dst v ∧ V i v w' ∧ Kept (fun _ => False) w1 w') Q)
  (hsp : ∀ (o : Oper), s < n1 → l[s]? = some o → ∀ a w1, Kept (fun _ => False) w.drew w1 → UptoT l.toArray V a0 s o a w1 → o.wp P a w1 (fun a' w' => ∃ v, a' = a.put o.dst v ∧ V s v w' ∧ Kept S w1 w') Q)
  (hend : ∀ (vals : Nat → Value) w1, Kept S w.drew w1 → (∀ i, i < n1 → V i (vals i) w1) → wpList P l.toArray Q (l.drop n1) (putAll a0 (l.take n1) 0 vals) w1) :
  (Code.region id l.toArray true).wp P Q a0 w := by
 simp only [sealRegion, Bool.and_eq_true, List.all_eq_true, decide_eq_true_eq] at hB
 obtain ⟨⟨⟨⟨⟨hB1, hB6⟩, hB2⟩, hB3'⟩, hB4⟩, hB5⟩ := hB
 have hB3 := rise_of hB3'
 have hget : ∀ (i : Nat), l.toArray[i]? = l[i]? := fun i => by simp
 have hsize : l.toArray.size = l.length := by simp
 have htk : ∀ (i : Nat), i < n1 → (l.take n1)[i]? = l[i]? := fun i hi => by rw [List.getElem?_take, if_pos hi]
 have hgd : ∀ (i : Nat) (o : Oper), i < n1 → l.toArray[i]? = some o → o.guard = none := by
  intro i o hi ho
  rw [hget] at ho
  have h1 := hB1 i (List.mem_range.2 hi)
  rw [ho] at h1
  simp only [Bool.and_eq_true] at h1
  simpa using h1.1
 have hdst : ∀ (i : Nat) (o : Oper), i < n1 → i ≠ s → l.toArray[i]? = some o → ∃ d, o.dst = some d ∧ d < a0.tmps.size := by
  intro i o hi his ho
  rw [hget] at ho
  have h1 := hB1 i (List.mem_range.2 hi)
  rw [ho] at h1
  simp only [Bool.and_eq_true] at h1
  cases hd : o.dst with
  | none => rw [hd] at h1; simp at h1; exact absurd h1.2 his
  | some d => rw [hd] at h1; exact ⟨d, rfl, by rw [hn]; simpa using h1.2⟩
 have hdstS : ∀ (o : Oper), l.toArray[s]? = some o → o.dst = none := by
  intro o ho
  rw [hget] at ho
  rw [ho] at hB6
  simpa using hB6
 have hpw : (l.take n1).Pairwise fun o u => o.dst ≠ u.dst := by
  rw [List.Nodup, List.pairwise_map] at hB2; exact hB2
 have hne : ∀ (i j : Nat) (o u : Oper), i < n1 → j < n1 → l.toArray[i]? = some o → l.toArray[j]? = some u → i ≠ j → o.dst ≠ u.dst := by
  intro i j o u hin hjn ho hu hij
  rw [hget, ← htk i hin] at ho
  rw [hget, ← htk j hjn] at hu
  obtain ⟨hi, rfl⟩ := List.getElem?_eq_some_iff.1 ho
  obtain ⟨hj, rfl⟩ := List.getElem?_eq_some_iff.1 hu
  rcases Nat.lt_or_ge i j with h1 | h1
  ·exact List.pairwise_iff_getElem.1 hpw i j hi hj h1
  ·exact (List.pairwise_iff_getElem.1 hpw j i hj hi (by omega)).symm
 have hall : ∀ listed a w1, (ByT l.toArray n1 s S V a0 w.drew listed a w1 ∧ (listed.getD s false = true → V s undef w1)) → (∀ i, i < n1 → listed.getD i false = true) → wpList P l.toArray Q (l.drop n1) a w1 := by
  intro listed a w1 inv0 hl
  obtain ⟨inv, invS⟩ := inv0
  obtain ⟨vals, hvals⟩ : ∃ vals : Nat → Value, ∀ i (o : Oper) d, i < n1 → l[i]? = some o → o.dst = some d → a.tmps[d]? = some (vals i) ∧ V i (vals i) w1 := by
   refine ⟨fun i => match l[i]? with | some o => (match o.dst with | some d => (a.tmps[d]?).getD undef | none => undef) | none => undef, ?_⟩
   intro i o d hin hi hd
   obtain ⟨v, h1, h2⟩ := inv.done i o d (by rw [hget]; exact hi) (hl i hin) hd
   simp only [hi, hd, h1, Option.getD_some]
   exact ⟨trivial, h2⟩
  have hfr : a = putAll a0 (l.take n1) 0 vals := by
   have h1 := putAll_size (l.take n1) a0 0 vals
   have ht : a.tmps = (putAll a0 (l.take n1) 0 vals).tmps := by
    apply Array.ext_getElem?
    intro d
    by_cases hx : ∃ (i : Nat) (o : Oper), i < n1 ∧ l[i]? = some o ∧ o.dst = some d
    ·obtain ⟨i, o, hin, hi, hd⟩ := hx
     have his : i ≠ s := fun e => by subst e; have := hdstS o (by rw [hget]; exact hi); rw [hd] at this; cases this
     obtain ⟨d', hd', hlt⟩ := hdst i o hin his (by rw [hget]; exact hi)
     rw [hd] at hd'; cases hd'
     rw [putAll_done (l.take n1) a0 0 vals hpw i o d (by rw [htk i hin]; exact hi) hd hlt, (hvals i o d hin hi hd).1, Nat.zero_add]
    ·rw [putAll_rest (l.take n1) a0 0 vals d (fun o ho hd => by
      obtain ⟨i, hi, rfl⟩ := List.getElem_of_mem ho
      have hi1 : i < n1 := by simp at hi; omega
      have hi2 : i < l.length := by simp at hi; omega
      exact hx ⟨i, l[i], hi1, List.getElem?_eq_getElem hi2, by rw [← hd]; simp⟩)]
     refine inv.rest d (fun i o ho hli hd => ?_)
     by_cases hin : i < n1
     ·exact hx ⟨i, o, hin, by rw [← hget]; exact ho, hd⟩
     ·rw [inv.head i (by omega)] at hli; cases hli
   have hd2 : a.defers = (putAll a0 (l.take n1) 0 vals).defers := by rw [inv.defers, h1.2]
   cases a
   simp only at ht hd2
   rw [ht, hd2]
  rw [hfr]
  refine hend vals w1 inv.kept (fun i hi => ?_)
  have hil : i < l.length := by omega
  by_cases his : i = s
  ·subst his
   exact hVs undef _ _ (invS (hl i hi))
  obtain ⟨d, hd, _⟩ := hdst i l[i] hi his (by rw [hget]; exact List.getElem?_eq_getElem hil)
  exact (hvals i l[i] d hi (List.getElem?_eq_getElem hil) hd).2
 refine wp_region_inv hm (fun listed a w1 => (ByT l.toArray n1 s S V a0 w.drew listed a w1 ∧ (listed.getD s false = true → V s undef w1)) ∨ ∃ k, n1 ≤ k ∧ listed.size = l.length ∧ (∀ j, listed.getD j false = decide (j < k ∧ j < l.length)) ∧ wpList P l.toArray Q (l.drop k) a w1) ?_ ?_ ?_
 ·intro listed a w1 inv hr
  rcases inv with ⟨inv, invS⟩ | ⟨k, hk, hsz, hls, hw⟩
  ·have hl := all_of_readyA hB3 listed inv.count hr
   have hn1 : n1 = l.length := by
    rcases Nat.lt_or_ge n1 l.length with h | h
    ·have := hl n1 (by rw [hsize]; exact h)
     rw [inv.head n1 (Nat.le_refl _)] at this; cases this
    ·omega
   have := hall listed a w1 ⟨inv, invS⟩ (fun i hi => hl i (by rw [hsize]; omega))
   rw [hn1, List.drop_length] at this
   exact this
  ·have hl := all_of_readyA hB3 listed (by rw [hsz, hsize]) hr
   rcases Nat.lt_or_ge k l.length with h | h
   ·have := hl k (by rw [hsize]; exact h)
    rw [hls k] at this
    simp at this
   ·rw [List.drop_eq_nil_of_le h] at hw
    exact hw
 ·intro listed a w1 i inv hi
  obtain ⟨hun, o, ho, hdeps⟩ := mem_ready.1 hi
  have hil : i < l.length := by have := (Array.getElem?_eq_some_iff.1 ho).1; rwa [hsize] at this
  have hoi : l[i]? = some o := by rw [← hget]; exact ho
  have tail : ∀ k, n1 ≤ k → listed.size = l.length → (∀ j, listed.getD j false = decide (j < k ∧ j < l.length)) → wpList P l.toArray Q (l.drop k) a w1 → i = k →
    wpOp P l.toArray Q i (fun a w1 => (ByT l.toArray n1 s S V a0 w.drew (listed.setIfInBounds i true) a w1 ∧ ((listed.setIfInBounds i true).getD s false = true → V s undef w1)) ∨ ∃ k, n1 ≤ k ∧ (listed.setIfInBounds i true).size = l.length ∧ (∀ j, (listed.setIfInBounds i true).getD j false = decide (j < k ∧ j < l.length)) ∧ wpList P l.toArray Q (l.drop k) a w1) a w1 := by
   intro k hk hsz hls hw hik
   subst hik
   rw [List.drop_eq_getElem_cons hil, (List.getElem?_eq_some_iff.1 hoi).2] at hw
   have hw2 : wpOp P l.toArray Q i (wpList P l.toArray Q (l.drop (i + 1))) a w1 := by
    unfold wpOp
    simp only [ho]
    exact hw
   refine wpOp_mono (fun a' w' h' => Or.inr ⟨i + 1, by omega, by simp [hsz], fun j => ?_, h'⟩) hw2
   rw [getD_set _ _ _ (by rw [hsz]; exact hil), hls j]
   by_cases hij : i = j
   ·subst hij; simp [hil]
   ·rw [if_neg hij]
    congr 1
    apply propext
    omega
  rcases inv with ⟨inv, invS⟩ | ⟨k, hk, hsz, hls, hw⟩
  ·have hils : i < listed.size := by rw [inv.count, hsize]; exact hil
   have hunf : listed.getD i false = false := by
    simp only [Array.getD, hils, dif_pos] at hun ⊢; exact hun
   by_cases hin : i < n1
   ·have hg := hgd i o hin ho
    have hup : UptoT l.toArray V a0 i o a w1 := by
     refine ⟨inv.size, inv.defers, fun e he hb oj dj hj hdj => inv.done e.on oj dj hj (hdeps e he hb) hdj, fun d' hd' => inv.rest d' (fun j oj hj hlj hdj => ?_)⟩
     rcases hd' j oj hj hdj with rfl | ⟨e, he, hb, hei⟩
     ·rw [hunf] at hlj; cases hlj
     ·have := inv.closed j oj hj hlj e he hb
      rw [hei, hunf] at this; cases this
    unfold wpOp
    simp only [ho]
    have hw : Region.wanted o (yielded l.toArray a.tmps) = true := by simp [Region.wanted, hg]
    rw [if_pos hw]
    left
    have key : i ≠ s → ∀ (a' : Act) (w' : World), (∃ v, a' = a.put o.dst v ∧ V i v w' ∧ Kept S w1 w' ∧ (i ≠ s → Kept (fun _ => False) w1 w')) → ByT l.toArray n1 s S V a0 w.drew (listed.setIfInBounds i true) a' w' := by
     intro his0
     obtain ⟨d, hdo, hdl⟩ := hdst i o hin his0 ho
     rintro a' w' ⟨v, rfl, hv, hk, hkq⟩
     rw [hdo]
     refine ⟨by simp [inv.count], inv.kept.trans' hk, ?_, by simp [Act.put, inv.size], inv.defers, ?_, ?_, ?_, ?_⟩
     ·intro hls
      rw [getD_set _ _ _ hils] at hls
      by_cases his : i = s
      ·rw [if_pos his] at hls; cases hls
      ·rw [if_neg his] at hls
       exact (inv.quiet hls).trans' (hkq his)
     ·intro j oj dj hj hlj hdj
      rw [getD_set _ _ _ hils] at hlj
      by_cases hij : i = j
      ·subst hij
       rw [ho] at hj
       cases hj
       rw [hdo] at hdj
       cases hdj
       exact ⟨v, by rw [put_get, if_pos rfl, if_pos (by rw [inv.size]; exact hdl)], hv⟩
      ·rw [if_neg hij] at hlj
       obtain ⟨u, hu, hvu⟩ := inv.done j oj dj hj hlj hdj
       have hjn : j < n1 := by
        rcases Nat.lt_or_ge j n1 with h | h
        ·exact h
        ·rw [inv.head j h] at hlj; cases hlj
       have hvu' : V j u w' := by
        by_cases his : i = s
        ·exact hVS j u w1 w' (fun e => hij (by rw [his, e])) hvu hk
        ·exact hV j u w1 w' hvu (hkq his)
       refine ⟨u, ?_, hvu'⟩
       rw [put_get, if_neg (fun e => hne i j o oj hin hjn ho hj hij (by rw [hdo, hdj, e]))]
       exact hu
     ·intro d' hd'
      have hdd : d ≠ d' := fun e => hd' i o ho (by rw [getD_set _ _ _ hils, if_pos rfl]) (by rw [hdo, e])
      rw [put_get, if_neg hdd]
      refine inv.rest d' (fun j oj hj hlj => hd' j oj hj ?_)
      rw [getD_set _ _ _ hils]
      split
      ·rfl
      ·exact hlj
     ·intro j oj hj hlj e he hb
      rw [getD_set _ _ _ hils] at hlj ⊢
      by_cases hij : i = j
      ·subst hij
       rw [ho] at hj
       cases hj
       have := hdeps e he hb
       split
       ·rfl
       ·exact this
      ·rw [if_neg hij] at hlj
       have := inv.closed j oj hj hlj e he hb
       split
       ·rfl
       ·exact this
     ·intro j hj
      rw [getD_set _ _ _ hils, if_neg (by omega)]
      exact inv.head j hj
    have keyS : i = s → ∀ (a' : Act) (w' : World), (∃ v, a' = a.put o.dst v ∧ V i v w' ∧ Kept S w1 w' ∧ (i ≠ s → Kept (fun _ => False) w1 w')) → ByT l.toArray n1 s S V a0 w.drew (listed.setIfInBounds i true) a' w' := by
     intro his0
     have hdo : o.dst = none := hdstS o (by rw [← his0]; exact ho)
     rintro a' w' ⟨v, rfl, hv, hk, hkq⟩
     rw [hdo]
     refine ⟨by simp [inv.count], inv.kept.trans' hk, ?_, by simp [Act.put, inv.size], inv.defers, ?_, ?_, ?_, ?_⟩
     ·intro hls
      rw [getD_set _ _ _ hils] at hls
      by_cases his : i = s
      ·rw [if_pos his] at hls; cases hls
      ·rw [if_neg his] at hls
       exact (inv.quiet hls).trans' (hkq his)
     ·intro j oj dj hj hlj hdj
      rw [getD_set _ _ _ hils] at hlj
      by_cases hij : i = j
      ·subst hij
       rw [ho] at hj
       cases hj
       rw [hdo] at hdj
       cases hdj
      ·rw [if_neg hij] at hlj
       obtain ⟨u, hu, hvu⟩ := inv.done j oj dj hj hlj hdj
       have hjn : j < n1 := by
        rcases Nat.lt_or_ge j n1 with h | h
        ·exact h
        ·rw [inv.head j h] at hlj; cases hlj
       have hvu' : V j u w' := by
        by_cases his : i = s
        ·exact hVS j u w1 w' (fun e => hij (by rw [his, e])) hvu hk
        ·exact hV j u w1 w' hvu (hkq his)
       refine ⟨u, ?_, hvu'⟩
       exact hu
     ·intro d' hd'
      show a.tmps[d']? = _
      refine inv.rest d' (fun j oj hj hlj => hd' j oj hj ?_)
      rw [getD_set _ _ _ hils]
      split
      ·rfl
      ·exact hlj
     ·intro j oj hj hlj e he hb
      rw [getD_set _ _ _ hils] at hlj ⊢
      by_cases hij : i = j
      ·subst hij
       rw [ho] at hj
       cases hj
       have := hdeps e he hb
       split
       ·rfl
       ·exact this
      ·rw [if_neg hij] at hlj
       have := inv.closed j oj hj hlj e he hb
       split
       ·rfl
       ·exact this
     ·intro j hj
      rw [getD_set _ _ _ hils, if_neg (by omega)]
      exact inv.head j hj
    by_cases his : i = s
    ·subst his
     refine Oper.wp_mono ?_ (hsp o hin hoi a w1 (inv.quiet hunf) hup)
     rintro a' w' ⟨v, h1, h2, h3⟩
     exact Or.inl ⟨keyS rfl a' w' ⟨v, h1, h2, h3, fun h => absurd rfl h⟩, fun _ => hVs v _ _ h2⟩
    ·refine Oper.wp_mono ?_ (hop i o hin his hoi a w1 inv.kept hup)
     rintro a' w' ⟨v, h1, h2, h3⟩
     exact Or.inl ⟨key his a' w' ⟨v, h1, h2, h3.mono (fun _ _ h => h.elim), fun _ => h3⟩, fun hs => by
      rw [getD_set _ _ _ hils, if_neg his] at hs
      exact hV _ _ _ _ (invS hs) h3⟩
   ·have hdone : ∀ j, j < i → listed.getD j false = true := fun j hj => by
     exact reach_listed inv.closed _ i j o ho hdeps (tail_depT hB4 (by omega) (by rw [hsize]; exact hil) j hj)
    have hi1 : i = n1 := by
     rcases Nat.lt_or_ge n1 i with h | h
     ·have := hdone n1 h
      rw [inv.head n1 (Nat.le_refl _)] at this; cases this
     ·omega
    refine tail n1 (Nat.le_refl _) (by rw [inv.count, hsize]) (fun j => ?_) (hall listed a w1 ⟨inv, invS⟩ (fun j hj => hdone j (by omega))) hi1
    by_cases hj : j < n1
    ·rw [hdone j (by omega)]; simp [hj]; omega
    ·rw [inv.head j (by omega)]; simp; omega
  ·have hils : i < listed.size := by rw [hsz]; exact hil
   have hunf : listed.getD i false = false := by
    simp only [Array.getD, hils, dif_pos] at hun ⊢; exact hun
   have hki : k ≤ i := by
    rw [hls i] at hunf
    simp at hunf
    by_cases h : i < k
    ·have := hunf h; omega
    ·omega
   have hik : i = k := by
    rcases Nat.lt_or_ge k i with h | h
    ·obtain ⟨e, he, hb, hej⟩ := reach_firstA hB3 _ i k o ho (tail_depT hB4 (by omega) (by rw [hsize]; exact hil) k h)
     have := hdeps e he hb
     rw [hls e.on] at this
     simp at this
     omega
    ·omega
   exact tail k hk hsz hls hw hik
 ·left
  refine ⟨?_, fun hl => by
   exfalso
   simp only [Array.getD_eq_getD_getElem?, Array.getElem?_replicate] at hl
   split at hl <;> simp at hl⟩
  refine ⟨by simp, Kept.refl _ _, fun _ => Kept.refl _ _, rfl, rfl, ?_, fun d _ => rfl, ?_, ?_⟩
  ·intro i o d _ hl _
   exfalso
   simp only [Array.getD_eq_getD_getElem?, Array.getElem?_replicate] at hl
   split at hl <;> simp at hl
  ·intro i o _ hl
   exfalso
   simp only [Array.getD_eq_getD_getElem?, Array.getElem?_replicate] at hl
   split at hl <;> simp at hl
  ·intro i _
   simp only [Array.getD_eq_getD_getElem?, Array.getElem?_replicate]
   split <;> simp
def tailRegionB (l : List Oper) (n1 size : Nat) : Bool :=
 ((l.take n1).all fun o => o.guard.isNone && (match o.dst with | some d => decide (d < size) | none => false)) && decide (((l.take n1).map fun o => o.dst).Nodup) && risingBind l.toArray && tailWaitsT l.toArray n1 && decide (n1 ≤ l.length)
theorem wp_region_tailB {P : Program} {Q : Exit → Act → World → Prop} {id : Nat} {a0 : Act} {w : World} {l : List Oper} (hm : P.follows .mixedOrders = true) (n1 n : Nat) (hn : a0.tmps.size = n) (hB : tailRegionB l n1 n = true) (S : Nat → Prop) (s : Nat) (V : Nat → Value → World → Prop)
  (hV : ∀ i v w w', V i v w → Kept (fun _ => False) w w' → V i v w') (hVS : ∀ i v w w', i ≠ s → V i v w → Kept S w w' → V i v w')
  (hop : ∀ (i : Nat) (o : Oper), i < n1 → i ≠ s → l[i]? = some o → ∀ a w1, Kept S w.drew w1 → UptoT l.toArray V a0 i o a w1 → o.wp P a w1 (fun a' w' => ∃ v, a' = a.put o.dst v ∧ V i v w' ∧ Kept (fun _ => False) w1 w') Q)
  (hsp : ∀ (o : Oper), s < n1 → l[s]? = some o → ∀ a w1, Kept (fun _ => False) w.drew w1 → UptoT l.toArray V a0 s o a w1 → o.wp P a w1 (fun a' w' => ∃ v, a' = a.put o.dst v ∧ V s v w' ∧ Kept S w1 w') Q)
  (hend : ∀ (vals : Nat → Value) w1, Kept S w.drew w1 → (∀ i, i < n1 → V i (vals i) w1) → wpList P l.toArray Q (l.drop n1) (putAll a0 (l.take n1) 0 vals) w1) :
  (Code.region id l.toArray true).wp P Q a0 w := by
 simp only [tailRegionB, Bool.and_eq_true, List.all_eq_true, decide_eq_true_eq] at hB
 obtain ⟨⟨⟨⟨hB1, hB2⟩, hB3'⟩, hB4⟩, hB5⟩ := hB
 have hB3 := rise_of hB3'
 have hget : ∀ (i : Nat), l.toArray[i]? = l[i]? := fun i => by simp
 have hsize : l.toArray.size = l.length := by simp
 have htk : ∀ (i : Nat), i < n1 → (l.take n1)[i]? = l[i]? := fun i hi => by rw [List.getElem?_take, if_pos hi]
 have hdst : ∀ (i : Nat) (o : Oper), i < n1 → l.toArray[i]? = some o → o.guard = none ∧ ∃ d, o.dst = some d ∧ d < a0.tmps.size := by
  intro i o hi ho
  rw [hget, ← htk i hi] at ho
  have h1 := hB1 o (List.mem_of_getElem? ho)
  refine ⟨by simpa using h1.1, ?_⟩
  cases hd : o.dst with
  | none => rw [hd] at h1; simp at h1
  | some d => rw [hd] at h1; exact ⟨d, rfl, by rw [hn]; simpa using h1.2⟩
 have hpw : (l.take n1).Pairwise fun o u => o.dst ≠ u.dst := by
  rw [List.Nodup, List.pairwise_map] at hB2; exact hB2
 have hne : ∀ (i j : Nat) (o u : Oper), i < n1 → j < n1 → l.toArray[i]? = some o → l.toArray[j]? = some u → i ≠ j → o.dst ≠ u.dst := by
  intro i j o u hin hjn ho hu hij
  rw [hget, ← htk i hin] at ho
  rw [hget, ← htk j hjn] at hu
  obtain ⟨hi, rfl⟩ := List.getElem?_eq_some_iff.1 ho
  obtain ⟨hj, rfl⟩ := List.getElem?_eq_some_iff.1 hu
  rcases Nat.lt_or_ge i j with h1 | h1
  ·exact List.pairwise_iff_getElem.1 hpw i j hi hj h1
  ·exact (List.pairwise_iff_getElem.1 hpw j i hj hi (by omega)).symm
 have hall : ∀ listed a w1, ByT l.toArray n1 s S V a0 w.drew listed a w1 → (∀ i, i < n1 → listed.getD i false = true) → wpList P l.toArray Q (l.drop n1) a w1 := by
  intro listed a w1 inv hl
  obtain ⟨vals, hvals⟩ : ∃ vals : Nat → Value, ∀ i (o : Oper) d, i < n1 → l[i]? = some o → o.dst = some d → a.tmps[d]? = some (vals i) ∧ V i (vals i) w1 := by
   refine ⟨fun i => match l[i]? with | some o => (match o.dst with | some d => (a.tmps[d]?).getD undef | none => undef) | none => undef, ?_⟩
   intro i o d hin hi hd
   obtain ⟨v, h1, h2⟩ := inv.done i o d (by rw [hget]; exact hi) (hl i hin) hd
   simp only [hi, hd, h1, Option.getD_some]
   exact ⟨trivial, h2⟩
  have hfr : a = putAll a0 (l.take n1) 0 vals := by
   have h1 := putAll_size (l.take n1) a0 0 vals
   have ht : a.tmps = (putAll a0 (l.take n1) 0 vals).tmps := by
    apply Array.ext_getElem?
    intro d
    by_cases hx : ∃ (i : Nat) (o : Oper), i < n1 ∧ l[i]? = some o ∧ o.dst = some d
    ·obtain ⟨i, o, hin, hi, hd⟩ := hx
     obtain ⟨_, d', hd', hlt⟩ := hdst i o hin (by rw [hget]; exact hi)
     rw [hd] at hd'; cases hd'
     rw [putAll_done (l.take n1) a0 0 vals hpw i o d (by rw [htk i hin]; exact hi) hd hlt, (hvals i o d hin hi hd).1, Nat.zero_add]
    ·rw [putAll_rest (l.take n1) a0 0 vals d (fun o ho hd => by
      obtain ⟨i, hi, rfl⟩ := List.getElem_of_mem ho
      have hi1 : i < n1 := by simp at hi; omega
      have hi2 : i < l.length := by simp at hi; omega
      exact hx ⟨i, l[i], hi1, List.getElem?_eq_getElem hi2, by rw [← hd]; simp⟩)]
     refine inv.rest d (fun i o ho hli hd => ?_)
     by_cases hin : i < n1
     ·exact hx ⟨i, o, hin, by rw [← hget]; exact ho, hd⟩
     ·rw [inv.head i (by omega)] at hli; cases hli
   have hd2 : a.defers = (putAll a0 (l.take n1) 0 vals).defers := by rw [inv.defers, h1.2]
   cases a
   simp only at ht hd2
   rw [ht, hd2]
  rw [hfr]
  refine hend vals w1 inv.kept (fun i hi => ?_)
  have hil : i < l.length := by omega
  obtain ⟨_, d, hd, _⟩ := hdst i l[i] hi (by rw [hget]; exact List.getElem?_eq_getElem hil)
  exact (hvals i l[i] d hi (List.getElem?_eq_getElem hil) hd).2
 refine wp_region_inv hm (fun listed a w1 => ByT l.toArray n1 s S V a0 w.drew listed a w1 ∨ ∃ k, n1 ≤ k ∧ listed.size = l.length ∧ (∀ j, listed.getD j false = decide (j < k ∧ j < l.length)) ∧ wpList P l.toArray Q (l.drop k) a w1) ?_ ?_ ?_
 ·intro listed a w1 inv hr
  rcases inv with inv | ⟨k, hk, hsz, hls, hw⟩
  ·have hl := all_of_readyA hB3 listed inv.count hr
   have hn1 : n1 = l.length := by
    rcases Nat.lt_or_ge n1 l.length with h | h
    ·have := hl n1 (by rw [hsize]; exact h)
     rw [inv.head n1 (Nat.le_refl _)] at this; cases this
    ·omega
   have := hall listed a w1 inv (fun i hi => hl i (by rw [hsize]; omega))
   rw [hn1, List.drop_length] at this
   exact this
  ·have hl := all_of_readyA hB3 listed (by rw [hsz, hsize]) hr
   rcases Nat.lt_or_ge k l.length with h | h
   ·have := hl k (by rw [hsize]; exact h)
    rw [hls k] at this
    simp at this
   ·rw [List.drop_eq_nil_of_le h] at hw
    exact hw
 ·intro listed a w1 i inv hi
  obtain ⟨hun, o, ho, hdeps⟩ := mem_ready.1 hi
  have hil : i < l.length := by have := (Array.getElem?_eq_some_iff.1 ho).1; rwa [hsize] at this
  have hoi : l[i]? = some o := by rw [← hget]; exact ho
  have tail : ∀ k, n1 ≤ k → listed.size = l.length → (∀ j, listed.getD j false = decide (j < k ∧ j < l.length)) → wpList P l.toArray Q (l.drop k) a w1 → i = k →
    wpOp P l.toArray Q i (fun a w1 => ByT l.toArray n1 s S V a0 w.drew (listed.setIfInBounds i true) a w1 ∨ ∃ k, n1 ≤ k ∧ (listed.setIfInBounds i true).size = l.length ∧ (∀ j, (listed.setIfInBounds i true).getD j false = decide (j < k ∧ j < l.length)) ∧ wpList P l.toArray Q (l.drop k) a w1) a w1 := by
   intro k hk hsz hls hw hik
   subst hik
   rw [List.drop_eq_getElem_cons hil, (List.getElem?_eq_some_iff.1 hoi).2] at hw
   have hw2 : wpOp P l.toArray Q i (wpList P l.toArray Q (l.drop (i + 1))) a w1 := by
    unfold wpOp
    simp only [ho]
    exact hw
   refine wpOp_mono (fun a' w' h' => Or.inr ⟨i + 1, by omega, by simp [hsz], fun j => ?_, h'⟩) hw2
   rw [getD_set _ _ _ (by rw [hsz]; exact hil), hls j]
   by_cases hij : i = j
   ·subst hij; simp [hil]
   ·rw [if_neg hij]
    congr 1
    apply propext
    omega
  rcases inv with inv | ⟨k, hk, hsz, hls, hw⟩
  ·have hils : i < listed.size := by rw [inv.count, hsize]; exact hil
   have hunf : listed.getD i false = false := by
    simp only [Array.getD, hils, dif_pos] at hun ⊢; exact hun
   by_cases hin : i < n1
   ·obtain ⟨hg, d, hdo, hdl⟩ := hdst i o hin ho
    have hup : UptoT l.toArray V a0 i o a w1 := by
     refine ⟨inv.size, inv.defers, fun e he hb oj dj hj hdj => inv.done e.on oj dj hj (hdeps e he hb) hdj, fun d' hd' => inv.rest d' (fun j oj hj hlj hdj => ?_)⟩
     rcases hd' j oj hj hdj with rfl | ⟨e, he, hb, hei⟩
     ·rw [hunf] at hlj; cases hlj
     ·have := inv.closed j oj hj hlj e he hb
      rw [hei, hunf] at this; cases this
    unfold wpOp
    simp only [ho]
    have hw : Region.wanted o (yielded l.toArray a.tmps) = true := by simp [Region.wanted, hg]
    rw [if_pos hw]
    left
    have key : ∀ (a' : Act) (w' : World), (∃ v, a' = a.put o.dst v ∧ V i v w' ∧ Kept S w1 w' ∧ (i ≠ s → Kept (fun _ => False) w1 w')) → ByT l.toArray n1 s S V a0 w.drew (listed.setIfInBounds i true) a' w' := by
     rintro a' w' ⟨v, rfl, hv, hk, hkq⟩
     rw [hdo]
     refine ⟨by simp [inv.count], inv.kept.trans' hk, ?_, by simp [Act.put, inv.size], inv.defers, ?_, ?_, ?_, ?_⟩
     ·intro hls
      rw [getD_set _ _ _ hils] at hls
      by_cases his : i = s
      ·rw [if_pos his] at hls; cases hls
      ·rw [if_neg his] at hls
       exact (inv.quiet hls).trans' (hkq his)
     ·intro j oj dj hj hlj hdj
      rw [getD_set _ _ _ hils] at hlj
      by_cases hij : i = j
      ·subst hij
       rw [ho] at hj
       cases hj
       rw [hdo] at hdj
       cases hdj
       exact ⟨v, by rw [put_get, if_pos rfl, if_pos (by rw [inv.size]; exact hdl)], hv⟩
      ·rw [if_neg hij] at hlj
       obtain ⟨u, hu, hvu⟩ := inv.done j oj dj hj hlj hdj
       have hjn : j < n1 := by
        rcases Nat.lt_or_ge j n1 with h | h
        ·exact h
        ·rw [inv.head j h] at hlj; cases hlj
       have hvu' : V j u w' := by
        by_cases his : i = s
        ·exact hVS j u w1 w' (fun e => hij (by rw [his, e])) hvu hk
        ·exact hV j u w1 w' hvu (hkq his)
       refine ⟨u, ?_, hvu'⟩
       rw [put_get, if_neg (fun e => hne i j o oj hin hjn ho hj hij (by rw [hdo, hdj, e]))]
       exact hu
     ·intro d' hd'
      have hdd : d ≠ d' := fun e => hd' i o ho (by rw [getD_set _ _ _ hils, if_pos rfl]) (by rw [hdo, e])
      rw [put_get, if_neg hdd]
      refine inv.rest d' (fun j oj hj hlj => hd' j oj hj ?_)
      rw [getD_set _ _ _ hils]
      split
      ·rfl
      ·exact hlj
     ·intro j oj hj hlj e he hb
      rw [getD_set _ _ _ hils] at hlj ⊢
      by_cases hij : i = j
      ·subst hij
       rw [ho] at hj
       cases hj
       have := hdeps e he hb
       split
       ·rfl
       ·exact this
      ·rw [if_neg hij] at hlj
       have := inv.closed j oj hj hlj e he hb
       split
       ·rfl
       ·exact this
     ·intro j hj
      rw [getD_set _ _ _ hils, if_neg (by omega)]
      exact inv.head j hj
    by_cases his : i = s
    ·subst his
     refine Oper.wp_mono ?_ (hsp o hin hoi a w1 (inv.quiet hunf) hup)
     rintro a' w' ⟨v, h1, h2, h3⟩
     exact Or.inl (key a' w' ⟨v, h1, h2, h3, fun h => absurd rfl h⟩)
    ·refine Oper.wp_mono ?_ (hop i o hin his hoi a w1 inv.kept hup)
     rintro a' w' ⟨v, h1, h2, h3⟩
     exact Or.inl (key a' w' ⟨v, h1, h2, h3.mono (fun _ _ h => h.elim), fun _ => h3⟩)
   ·have hdone : ∀ j, j < i → listed.getD j false = true := fun j hj => by
     exact reach_listed inv.closed _ i j o ho hdeps (tail_depT hB4 (by omega) (by rw [hsize]; exact hil) j hj)
    have hi1 : i = n1 := by
     rcases Nat.lt_or_ge n1 i with h | h
     ·have := hdone n1 h
      rw [inv.head n1 (Nat.le_refl _)] at this; cases this
     ·omega
    refine tail n1 (Nat.le_refl _) (by rw [inv.count, hsize]) (fun j => ?_) (hall listed a w1 inv (fun j hj => hdone j (by omega))) hi1
    by_cases hj : j < n1
    ·rw [hdone j (by omega)]; simp [hj]; omega
    ·rw [inv.head j (by omega)]; simp; omega
  ·have hils : i < listed.size := by rw [hsz]; exact hil
   have hunf : listed.getD i false = false := by
    simp only [Array.getD, hils, dif_pos] at hun ⊢; exact hun
   have hki : k ≤ i := by
    rw [hls i] at hunf
    simp at hunf
    by_cases h : i < k
    ·have := hunf h; omega
    ·omega
   have hik : i = k := by
    rcases Nat.lt_or_ge k i with h | h
    ·obtain ⟨e, he, hb, hej⟩ := reach_firstA hB3 _ i k o ho (tail_depT hB4 (by omega) (by rw [hsize]; exact hil) k h)
     have := hdeps e he hb
     rw [hls e.on] at this
     simp at this
     omega
    ·omega
   exact tail k hk hsz hls hw hik
 ·left
  refine ⟨by simp, Kept.refl _ _, fun _ => Kept.refl _ _, rfl, rfl, ?_, fun d _ => rfl, ?_, ?_⟩
  ·intro i o d _ hl _
   exfalso
   simp only [Array.getD_eq_getD_getElem?, Array.getElem?_replicate] at hl
   split at hl <;> simp at hl
  ·intro i o _ hl
   exfalso
   simp only [Array.getD_eq_getD_getElem?, Array.getElem?_replicate] at hl
   split at hl <;> simp at hl
  ·intro i _
   simp only [Array.getD_eq_getD_getElem?, Array.getElem?_replicate]
   split <;> simp
end Go.Chorus
