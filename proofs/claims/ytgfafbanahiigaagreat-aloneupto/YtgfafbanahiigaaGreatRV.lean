import Derived.Test.YtgfafbanahiigaaGreatRH
set_option linter.unusedVariables false
set_option linter.unusedSimpArgs false
namespace Go.Chorus
def reachB (ops : Array Oper) : Nat → Nat → Nat → Bool
 | 0, _, _ => false
 | f + 1, i, j => match ops[i]? with
  | some o => o.after.any fun e => Region.binds .any e && (decide (e.on = j) || reachB ops f e.on j)
  | none => false
theorem reach_some {ops : Array Oper} {f i j : Nat} {o : Oper} (ho : ops[i]? = some o) (h : reachB ops (f + 1) i j = true) : ∃ e ∈ o.after, Region.binds .any e = true ∧ (e.on = j ∨ reachB ops f e.on j = true) := by
 unfold reachB at h
 rw [ho] at h
 simp only [Array.any_eq_true'] at h
 obtain ⟨e, he, h2⟩ := h
 simp only [Bool.and_eq_true, Bool.or_eq_true, decide_eq_true_eq] at h2
 exact ⟨e, he, h2.1, h2.2⟩
theorem reach_op {ops : Array Oper} {f i j : Nat} (h : reachB ops f i j = true) : ∃ o g, ops[i]? = some o ∧ f = g + 1 := by
 cases f with
 | zero => cases h
 | succ g =>
  unfold reachB at h
  cases ho : ops[i]? with
  | none => rw [ho] at h; cases h
  | some o => exact ⟨o, g, rfl, rfl⟩
theorem reach_listed {ops : Array Oper} {listed : Array Bool} (closed : ∀ (i : Nat) (o : Oper), ops[i]? = some o → listed.getD i false = true → ∀ e ∈ o.after, Region.binds .any e = true → listed.getD e.on false = true) :
  ∀ (f i j : Nat) (o : Oper), ops[i]? = some o → (∀ e ∈ o.after, Region.binds .any e = true → listed.getD e.on false = true) → reachB ops f i j = true → listed.getD j false = true := by
 intro f
 induction f with
 | zero => intro i j o _ _ h; cases h
 | succ f ih =>
  intro i j o ho hd h
  obtain ⟨e, he, hb, h1 | h1⟩ := reach_some ho h
  ·rw [← h1]; exact hd e he hb
  ·obtain ⟨o', _, ho', _⟩ := reach_op h1
   exact ih e.on j o' ho' (closed e.on o' ho' (hd e he hb)) h1
def tailWaitsT (ops : Array Oper) (n1 : Nat) : Bool := (List.range ops.size).all fun i => decide (i < n1) || ((List.range i).all fun j => reachB ops 6 i j)
theorem tail_depT {ops : Array Oper} {n1 : Nat} (h : tailWaitsT ops n1 = true) {i : Nat} (hi : n1 ≤ i) (hs : i < ops.size) : ∀ j, j < i → reachB ops 6 i j = true := by
 intro j hj
 have h1 := List.all_eq_true.1 h i (List.mem_range.2 hs)
 simp only [Bool.or_eq_true, decide_eq_true_eq] at h1
 rcases h1 with h1 | h1
 ·omega
 ·exact List.all_eq_true.1 h1 j (List.mem_range.2 hj)
end Go.Chorus
