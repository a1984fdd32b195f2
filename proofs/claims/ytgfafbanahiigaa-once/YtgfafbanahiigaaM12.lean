/- Once's own half: a peer's own operation frees nothing that waits. -/
import Derived.Test.YtgfafbanahiigaaM11
set_option linter.unusedVariables false
set_option linter.unusedSimpArgs false
namespace Go.Chorus

theorem HistOk.seen_le {H : List Ope} (h : HistOk H) : ∀ q ∈ H, ∀ j, sn q j ≤ cnt H j := by
  induction h using HistOk.ind with
  | nil => intro q hq; cases hq
  | @cons o H h num own made whole clock pos name ih =>
    intro q hq j
    rcases List.mem_cons.1 hq with rfl | hq
    · have := made j; simp only [cnt]; omega
    · have := ih q hq j; simp only [cnt]; omega

theorem firstGo_none (s : Pr) : ∀ (l : List Ope) (i : Nat), (∀ q ∈ l, s.can q = false) → firstGo s l i = none
  | [], _, _ => rfl
  | o :: r, i, h => by
    unfold firstGo
    rw [if_neg (by rw [h o (by simp)]; decide)]
    exact firstGo_none s r (i + 1) (fun q hq => h q (by simp [hq]))

/-- A peer's own operation is delivered alone. -/
theorem own_alone {N : Nat} {H : List Ope} {s : Pr} (h : HistOk H) (p : PeerOk N H s) {o : Ope} (ho : o.peer = s.me) : s.deliverF o = (s.apply o, 1) := by
  have hme : s.me < s.known.length := by rw [p.1.len]; exact p.1.me
  have hk := k_apply s o (by rw [ho]; exact hme)
  have hc : ∀ q ∈ (s.apply o).held, (s.apply o).can q = false := fun q hq => by
    have hq' : q ∈ s.held := hq
    have hH := p.1.held q hq'
    have hl := p.1.late q hq'
    have hr := h.range q hH
    have hne : q.peer ≠ s.me := fun e => by
      rw [e, p.1.own] at hl
      rw [e] at hr
      omega
    cases hcan : (s.apply o).can q with
    | false => rfl
    | true =>
      have h1 := (can_iff _ _).1 hcan
      have h2 : s.can q = true := (can_iff _ _).2 ⟨by
        have := h1.1
        rw [hk] at this
        unfold bump at this
        rw [if_neg (by rw [ho]; exact hne)] at this
        exact this, fun j hj => by
        have h3 := h1.2 j (by show j < (s.known.set _ _).length; rw [List.length_set]; exact hj)
        rw [hk] at h3
        unfold bump at h3
        by_cases e : j = o.peer
        · have h4 := h.seen_le q hH j
          rw [e, ho] at h4 ⊢
          rw [p.1.own]; exact h4
        · rw [if_neg e] at h3; exact h3⟩
      rw [p.2 q hq'] at h2
      cases h2
  have hf : (s.apply o).firstCan = none := firstGo_none _ _ _ hc
  unfold Pr.deliverF
  cases s.held.length with
  | zero => rfl
  | succ f =>
    have : settleF (f + 1) (s.apply o) = (s.apply o, 0) := by
      unfold settleF
      rw [hf]
    rw [this]
end Go.Chorus
