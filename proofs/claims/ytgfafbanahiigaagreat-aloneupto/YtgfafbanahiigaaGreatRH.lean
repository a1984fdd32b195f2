import Derived.Orders
import Derived.Test.YtgfafbanahiigaaGreatBase
set_option linter.unusedVariables false
set_option linter.unusedSimpArgs false
namespace Go.Chorus
def left (listed : Array Bool) : Nat := listed.toList.count false
theorem count_set (l : List Bool) (i : Nat) (h : l[i]? = some false) : (l.set i true).count false + 1 = l.count false := by
 induction l generalizing i with
 | nil => simp at h
 | cons b r ih =>
  cases i with
  | zero =>
   simp at h; subst h; simp
  | succ i =>
   have := ih i (by simpa using h)
   simp only [List.set_cons_succ, List.count_cons]
   omega
theorem left_set {listed : Array Bool} {i : Nat} (h : listed.getD i true = false) : left (listed.setIfInBounds i true) + 1 = left listed := by
 unfold left
 rw [Array.toList_setIfInBounds]
 refine count_set _ _ ?_
 rw [Array.getElem?_toList]
 rcases Nat.lt_or_ge i listed.size with hi | hi
 ·simp only [Array.getD, hi, dif_pos] at h
  rw [Array.getElem?_eq_getElem hi]
  simpa using h
 ·simp [Array.getD, Nat.not_lt.2 hi] at h
section
variable {P : Program} {ops : Array Oper} {Q : Exit → Act → World → Prop} {md : Region.Mode}
theorem wpAny_inv (Inv : Array Bool → Act → World → Prop) (hend : ∀ listed a w, Inv listed a w → Region.ready md ops listed = [] → Q .normal a w)
  (hstep : ∀ listed a w i, Inv listed a w → i ∈ Region.ready md ops listed → wpOp P ops Q i (Inv (listed.setIfInBounds i true)) a w) :
  ∀ (fuel : Nat) (listed : Array Bool) (a : Act) (w : World), left listed ≤ fuel → Inv listed a w → wpAny P md ops Q fuel listed a w := by
 intro fuel
 induction fuel with
 | zero =>
  intro listed a w hl hi
  have hr : Region.ready md ops listed = [] := by
   cases hh : Region.ready md ops listed with
   | nil => rfl
   | cons i r =>
    have hm : i ∈ Region.ready md ops listed := by rw [hh]; simp
    have := left_set (mem_ready.1 hm).1
    omega
  exact ⟨hr, hend _ _ _ hi hr⟩
 | succ fuel ih =>
  intro listed a w hl hi
  refine ⟨fun hr => hend _ _ _ hi hr, fun i hm => ?_⟩
  refine wpOp_mono (fun a' w' h' => ih _ a' w' ?_ h') (hstep _ _ _ _ hi hm)
  have := left_set (mem_ready.1 hm).1
  omega
theorem wp_region_inv {id : Nat} {a : Act} {w : World} (hm : P.follows .mixedOrders = true) (Inv : Array Bool → Act → World → Prop)
  (hend : ∀ listed a w, Inv listed a w → Region.ready .any ops listed = [] → Q .normal a w)
  (hstep : ∀ listed a w i, Inv listed a w → i ∈ Region.ready .any ops listed → wpOp P ops Q i (Inv (listed.setIfInBounds i true)) a w)
  (h0 : Inv (Array.replicate ops.size false) a { w with drawn := w.drawn + 1 }) : (Code.region id ops true).wp P Q a w := by
 refine wp_region_any hm (wpAny_inv Inv hend hstep _ _ _ _ ?_ h0)
 unfold left
 rw [Array.toList_replicate, List.count_replicate]
 split <;> omega
end
structure ByClaims (ops : Array Oper) (V : Nat → Value → World → Prop) (a0 : Act) (w0 : World) (listed : Array Bool) (a : Act) (w : World) : Prop where
 count : listed.size = ops.size
 kept : Kept (fun _ => False) w0 w
 size : a.tmps.size = a0.tmps.size
 defers : a.defers = a0.defers
 done : ∀ (i : Nat) (o : Oper) (d : Tmp), ops[i]? = some o → listed.getD i false = true → o.dst = some d → ∃ v, a.tmps[d]? = some v ∧ V i v w
 rest : ∀ d : Tmp, (∀ (i : Nat) (o : Oper), ops[i]? = some o → listed.getD i false = true → o.dst ≠ some d) → a.tmps[d]? = a0.tmps[d]?
 closed : ∀ (i : Nat) (o : Oper), ops[i]? = some o → listed.getD i false = true → ∀ e ∈ o.after, Region.binds .any e = true → listed.getD e.on false = true
structure Upto (ops : Array Oper) (V : Nat → Value → World → Prop) (a0 : Act) (w0 : World) (i : Nat) (o : Oper) (a : Act) (w : World) : Prop where
 kept : Kept (fun _ => False) w0 w
 size : a.tmps.size = a0.tmps.size
 defers : a.defers = a0.defers
 dep : ∀ e ∈ o.after, Region.binds .any e = true → ∀ (oj : Oper) (d : Tmp), ops[e.on]? = some oj → oj.dst = some d → ∃ v, a.tmps[d]? = some v ∧ V e.on v w
 old : ∀ d : Tmp, (∀ (j : Nat) (oj : Oper), ops[j]? = some oj → oj.dst = some d → j = i ∨ ∃ e ∈ oj.after, Region.binds .any e = true ∧ e.on = i) → a.tmps[d]? = a0.tmps[d]?
theorem getD_set (l : Array Bool) (i j : Nat) (hi : i < l.size) : (l.setIfInBounds i true).getD j false = if i = j then true else l.getD j false := by
 simp only [Array.getD_eq_getD_getElem?, Array.getElem?_setIfInBounds]
 by_cases h : i = j
 ·subst h; simp [hi]
 ·simp [h]
theorem put_get (a : Act) (d d' : Tmp) (v : Value) : (a.put (some d) v).tmps[d']? = if d = d' then (if d < a.tmps.size then some v else none) else a.tmps[d']? := by
 simp only [Act.put, Array.getElem?_setIfInBounds]
def risingEdges (ops : Array Oper) : Bool := (List.range ops.size).all fun i => ((ops[i]?).map fun o => o.after.all fun e => decide (e.on < i)).getD true
theorem all_of_ready {ops : Array Oper} (hr : risingEdges ops = true) (listed : Array Bool) (hs : listed.size = ops.size) (h : Region.ready .any ops listed = []) : ∀ i, i < ops.size → listed.getD i false = true := by
 intro i
 induction i using Nat.strongRecOn with
 | _ i ih =>
  intro hi
  by_cases hl : listed.getD i false = true
  ·exact hl
  ·exfalso
   have hil : i < listed.size := by omega
   have hm : i ∈ Region.ready .any ops listed := by
    refine mem_ready.2 ⟨?_, ops[i], Array.getElem?_eq_getElem hi, fun e he _ => ?_⟩
    ·simp only [Array.getD, hil, dif_pos] at hl ⊢; simpa using hl
    ·have h1 := List.all_eq_true.1 hr i (List.mem_range.2 hi)
     rw [Array.getElem?_eq_getElem hi] at h1
     simp only [Option.map_some, Option.getD_some, Array.all_eq_true'] at h1
     have h2 : e.on < i := by simpa using h1 e he
     exact ih e.on h2 (by omega)
   rw [h] at hm; cases hm
section
variable {P : Program} {ops : Array Oper} {Q : Exit → Act → World → Prop}
end
def putAll (a : Act) : List Oper → Nat → (Nat → Value) → Act
 | [], _, _ => a
 | o :: r, i, vals => putAll (a.put o.dst (vals i)) r (i + 1) vals
theorem put_size (a : Act) (d : Option Tmp) (v : Value) : (a.put d v).tmps.size = a.tmps.size := by cases d <;> simp [Act.put]
theorem put_defers (a : Act) (d : Option Tmp) (v : Value) : (a.put d v).defers = a.defers := by cases d <;> rfl
theorem putAll_size (l : List Oper) (a : Act) (i : Nat) (vals : Nat → Value) : (putAll a l i vals).tmps.size = a.tmps.size ∧ (putAll a l i vals).defers = a.defers := by
 induction l generalizing a i with
 | nil => exact ⟨rfl, rfl⟩
 | cons o r ih =>
  obtain ⟨h1, h2⟩ := ih (a.put o.dst (vals i)) (i + 1)
  exact ⟨h1.trans (put_size _ _ _), h2.trans (put_defers _ _ _)⟩
theorem put_other (a : Act) (x : Option Tmp) (d : Tmp) (v : Value) (h : x ≠ some d) : (a.put x v).tmps[d]? = a.tmps[d]? := by
 cases x with
 | none => rfl
 | some c => rw [put_get, if_neg (fun e => h (by rw [e]))]
theorem putAll_rest (l : List Oper) (a : Act) (i : Nat) (vals : Nat → Value) (d : Tmp) (h : ∀ o ∈ l, o.dst ≠ some d) : (putAll a l i vals).tmps[d]? = a.tmps[d]? := by
 induction l generalizing a i with
 | nil => rfl
 | cons o r ih =>
  show (putAll (a.put o.dst (vals i)) r (i + 1) vals).tmps[d]? = _
  rw [ih _ _ (fun o' ho' => h o' (by simp [ho'])), put_other _ _ _ _ (h o (by simp))]
theorem putAll_done (l : List Oper) (a : Act) (i : Nat) (vals : Nat → Value) (hne : l.Pairwise fun o u => o.dst ≠ u.dst) (j : Nat) (o : Oper) (d : Tmp) (hj : l[j]? = some o) (hd : o.dst = some d) (hs : d < a.tmps.size) :
  (putAll a l i vals).tmps[d]? = some (vals (i + j)) := by
 induction l generalizing a i j with
 | nil => simp at hj
 | cons x r ih =>
  obtain ⟨h1, h2⟩ := List.pairwise_cons.1 hne
  show (putAll (a.put x.dst (vals i)) r (i + 1) vals).tmps[d]? = _
  cases j with
  | zero =>
   simp at hj; subst hj
   rw [putAll_rest r _ _ _ d (fun o' ho' => by rw [← hd]; exact (h1 o' ho').symm), hd, put_get, if_pos rfl, if_pos hs]; rfl
  | succ j =>
   rw [ih (a.put x.dst (vals i)) (i + 1) h2 j (by simpa using hj) (by rw [put_size]; exact hs)]
   congr 2; omega
end Go.Chorus
set_option linter.unusedVariables false
set_option linter.unusedSimpArgs false
namespace Go.Chorus
structure UptoT (ops : Array Oper) (V : Nat → Value → World → Prop) (a0 : Act) (i : Nat) (o : Oper) (a : Act) (w : World) : Prop where
 size : a.tmps.size = a0.tmps.size
 defers : a.defers = a0.defers
 dep : ∀ e ∈ o.after, Region.binds .any e = true → ∀ (oj : Oper) (d : Tmp), ops[e.on]? = some oj → oj.dst = some d → ∃ v, a.tmps[d]? = some v ∧ V e.on v w
 old : ∀ d : Tmp, (∀ (j : Nat) (oj : Oper), ops[j]? = some oj → oj.dst = some d → j = i ∨ ∃ e ∈ oj.after, Region.binds .any e = true ∧ e.on = i) → a.tmps[d]? = a0.tmps[d]?
structure ByT (ops : Array Oper) (n1 s : Nat) (S : Nat → Prop) (V : Nat → Value → World → Prop) (a0 : Act) (w0 : World) (listed : Array Bool) (a : Act) (w : World) : Prop where
 count : listed.size = ops.size
 kept : Kept S w0 w
 quiet : listed.getD s false = false → Kept (fun _ => False) w0 w
 size : a.tmps.size = a0.tmps.size
 defers : a.defers = a0.defers
 done : ∀ (i : Nat) (o : Oper) (d : Tmp), ops[i]? = some o → listed.getD i false = true → o.dst = some d → ∃ v, a.tmps[d]? = some v ∧ V i v w
 rest : ∀ d : Tmp, (∀ (i : Nat) (o : Oper), ops[i]? = some o → listed.getD i false = true → o.dst ≠ some d) → a.tmps[d]? = a0.tmps[d]?
 closed : ∀ (i : Nat) (o : Oper), ops[i]? = some o → listed.getD i false = true → ∀ e ∈ o.after, Region.binds .any e = true → listed.getD e.on false = true
 head : ∀ i, n1 ≤ i → listed.getD i false = false
def tailWaits (ops : Array Oper) (n1 : Nat) : Bool := (List.range ops.size).all fun i => decide (i < n1) || ((List.range i).all fun j => ((ops[i]?).map fun o => o.after.any fun e => Region.binds .any e && decide (e.on = j)).getD false)
def tailRegion (l : List Oper) (n1 size : Nat) : Bool :=
 ((l.take n1).all fun o => o.guard.isNone && (match o.dst with | some d => decide (d < size) | none => false)) && decide (((l.take n1).map fun o => o.dst).Nodup) && risingEdges l.toArray && tailWaits l.toArray n1 && decide (n1 ≤ l.length)
theorem tail_dep {ops : Array Oper} {n1 : Nat} (h : tailWaits ops n1 = true) {i : Nat} (hi : n1 ≤ i) (hs : i < ops.size) {o : Oper} (ho : ops[i]? = some o) : ∀ j, j < i → ∃ e ∈ o.after, Region.binds .any e = true ∧ e.on = j := by
 intro j hj
 have h1 := List.all_eq_true.1 h i (List.mem_range.2 hs)
 simp only [Bool.or_eq_true, decide_eq_true_eq] at h1
 rcases h1 with h1 | h1
 ·omega
 ·have h2 := List.all_eq_true.1 h1 j (List.mem_range.2 hj)
  rw [ho] at h2
  simp only [Option.map_some, Option.getD_some, Array.any_eq_true'] at h2
  obtain ⟨e, he, h3⟩ := h2
  simp only [Bool.and_eq_true, decide_eq_true_eq] at h3
  exact ⟨e, he, h3.1, h3.2⟩
theorem Upto.d {ops : Array Oper} {V : Nat → Value → World → Prop} {a0 : Act} {w0 : World} {i : Nat} {o : Oper} {a : Act} {w : World} (up : Upto ops V a0 w0 i o a w) (n : Nat) (d : Tmp) (h1 : (o.after.toList.any fun e => e.on == n && Region.binds .any e) = true) (h2 : ((ops[n]?).bind fun q => q.dst) = some d) : ∃ v, a.tmps[d]? = some v ∧ V n v w := by
 obtain ⟨e, he, hb⟩ := List.any_eq_true.1 h1
 simp only [Bool.and_eq_true, beq_iff_eq] at hb
 obtain ⟨rfl, hb⟩ := hb
 cases hq : ops[e.on]? with
 | none => rw [hq] at h2; cases h2
 | some q => rw [hq] at h2; exact up.dep e (by simpa using he) hb q d hq h2
theorem UptoT.d {ops : Array Oper} {V : Nat → Value → World → Prop} {a0 : Act} {i : Nat} {o : Oper} {a : Act} {w : World} (up : UptoT ops V a0 i o a w) (n : Nat) (d : Tmp) (h1 : (o.after.toList.any fun e => e.on == n && Region.binds .any e) = true) (h2 : ((ops[n]?).bind fun q => q.dst) = some d) : ∃ v, a.tmps[d]? = some v ∧ V n v w := by
 obtain ⟨e, he, hb⟩ := List.any_eq_true.1 h1
 simp only [Bool.and_eq_true, beq_iff_eq] at hb
 obtain ⟨rfl, hb⟩ := hb
 cases hq : ops[e.on]? with
 | none => rw [hq] at h2; cases h2
 | some q => rw [hq] at h2; exact up.dep e (by simpa using he) hb q d hq h2
end Go.Chorus
