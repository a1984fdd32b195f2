/- The program's peer and the reference's beside it: one state; what is received, on both sides. -/
import Derived.Test.YtgfafbanahiigaaGreatNG
import Derived.Test.YtgfafbanahiigaaGreatV13
set_option linter.unusedVariables false
set_option linter.unusedSimpArgs false
namespace Go.Proofs.YtgfafbanahiigaaGreat
open Go.RowKit Go.Chorus

theorem Alk.apply {s t : Pr} (h : Alk s t) (o : Ope) : Alk (s.apply o) (t.apply o) := by
  refine ⟨h.me, ?_, ?_, ?_, h.held, by show s.log.modify _ _ = t.log.modify _ _; rw [h.log]⟩
  · show max s.clock o.clock = max t.clock o.clock
    rw [h.clock]
  · show s.known.set o.peer (s.k o.peer + 1) = t.known.set o.peer (t.k o.peer + 1)
    rw [h.known, h.k]
  · show (if o.ins then insertEl s.row _ _ _ _ _ else killEl s.row _ _) = _
    rw [h.row]; rfl

theorem sum_bump (l : List Nat) (n : Nat) (h : n < l.length) : (l.set n (l.getD n 0 + 1)).sum = l.sum + 1 := by
  induction l generalizing n with
  | nil => simp at h
  | cons a l ih =>
    cases n with
    | zero => simp; omega
    | succ n =>
      simp only [List.set_cons_succ, List.sum_cons, List.getD_cons_succ]
      rw [ih n (by simpa using h)]; omega

/-- How many operations a peer has. -/
def ksize (s : Pr) : Nat := s.known.sum + s.held.length

theorem ksize_apply (s : Pr) (o : Ope) (h : o.peer < s.known.length) : ksize (s.apply o) = ksize s + 1 := by
  unfold ksize
  show (s.known.set o.peer (s.k o.peer + 1)).sum + s.held.length = _
  have := sum_bump s.known o.peer h
  unfold Pr.k
  omega

/-- Each element has a clock and a peer of the group. -/
def ElsOk (N : Nat) (es : List El) : Prop := ∀ e ∈ es, 1 ≤ e.clock ∧ e.peer < N ∧ okRune e.char

theorem killEl_els {N : Nat} {es : List El} {c p : Nat} (h : ElsOk N es) : ElsOk N (killEl es c p) := by
  unfold killEl
  split
  · intro e he
    obtain ⟨i, hi, rfl⟩ := List.getElem_of_mem he
    rw [List.getElem_modify]
    have hi2 : i < es.length := by simpa using hi
    have hh := h (es[i]'hi2) (List.getElem_mem _)
    split
    · exact hh
    · exact hh
  · exact h

theorem insertEl_els {N : Nat} {es : List El} {c p bc bp : Nat} {ch : Int} (h : ElsOk N es) (h1 : 1 ≤ c) (h2 : p < N) (h3 : okRune ch) : ElsOk N (insertEl es c p bc bp ch) := by
  unfold insertEl
  split
  · exact h
  · intro e he
    simp only [List.mem_append, List.mem_cons] at he
    rcases he with he | rfl | he
    · exact h e (List.mem_of_mem_take he)
    · exact ⟨h1, h2, h3⟩
    · exact h e (List.mem_of_mem_drop he)

theorem apply_els {N : Nat} {s : Pr} (h : ElsOk N s.row) {o : Ope} (ho : RightOp N o) : ElsOk N (s.apply o).row := by
  show ElsOk N (if o.ins then _ else _)
  split
  · next hi =>
    have hc := ho.char
    rw [if_pos hi] at hc
    exact insertEl_els h ho.clock.1 ho.peer (by unfold okRune; omega)
  · exact killEl_els h

theorem settleF_more {N : Nat} : ∀ (f : Nat) (s : Pr), Fit N s → ElsOk N s.row → ElsOk N (settleF f s).1.row ∧ ksize (settleF f s).1 ≤ ksize s ∧ (settleF f s).1.me = s.me := by
  intro f
  induction f with
  | zero => intro s h e; exact ⟨e, Nat.le_refl _, rfl⟩
  | succ f ih =>
    intro s h e
    unfold settleF
    cases hf : s.firstCan with
    | none => exact ⟨e, Nat.le_refl _, rfl⟩
    | some x =>
      obtain ⟨i, o⟩ := x
      obtain ⟨_, hi, hc⟩ := firstGo_mem s s.held 0 (i, o) hf
      simp only [Nat.sub_zero] at hi hc
      have hil : i < s.held.length := (List.getElem?_eq_some_iff.1 hi).1
      have hel : (s.held.eraseIdx i).length = s.held.length - 1 := List.length_eraseIdx_of_lt hil
      have ho := h.held o (List.mem_of_getElem? hi)
      have h1 : Fit N ({ s with held := s.held.eraseIdx i } : Pr) := ⟨h.len, h.n1, h.n8, h.me, h.known, h.clock, fun o ho => h.held o (List.mem_of_mem_eraseIdx ho), by have := h.most; show (s.held.eraseIdx i).length ≤ 16; omega, h.row, h.log⟩
      have h2 := h1.apply ho ((can_iff s o).1 hc).1
      obtain ⟨a, b, c⟩ := ih _ h2 (apply_els (s := { s with held := s.held.eraseIdx i }) e ho)
      have h3 := ksize_apply ({ s with held := s.held.eraseIdx i } : Pr) o (by show o.peer < s.known.length; rw [h.len]; exact ho.peer)
      refine ⟨a, Nat.le_trans b ?_, c⟩
      rw [h3]
      unfold ksize
      show s.known.sum + (s.held.eraseIdx i).length + 1 ≤ _
      omega

/-- The two are one. -/
structure Two (N M : Nat) (s : Pr) (t : RSt) : Prop where
  fit : Fit N s
  alk : Alk s t.pr
  inRow : InRow s.held
  els : ElsOk N s.row
  len : psize s ≤ M
  few : ksize s ≤ M

theorem Two.more {N M M' : Nat} {s : Pr} {t : RSt} (h : Two N M s t) (hM : M ≤ M') : Two N M' s t :=
  ⟨h.fit, h.alk, h.inRow, h.els, Nat.le_trans h.len hM, Nat.le_trans h.few hM⟩

theorem Two.me {N M : Nat} {s : Pr} {t : RSt} (h : Two N M s t) : t.me = s.me := h.alk.me.symm
theorem Two.clock {N M : Nat} {s : Pr} {t : RSt} (h : Two N M s t) : t.clock = s.clock := h.alk.clock.symm
theorem Two.row {N M : Nat} {s : Pr} {t : RSt} (h : Two N M s t) : t.row = s.row := h.alk.row.symm
theorem Two.known {N M : Nat} {s : Pr} {t : RSt} (h : Two N M s t) : t.known = s.known := h.alk.known.symm
theorem Two.log {N M : Nat} {s : Pr} {t : RSt} (h : Two N M s t) : t.ops.map (List.map Prod.fst) = s.log := h.alk.log.symm
theorem Two.held {N M : Nat} {s : Pr} {t : RSt} (h : Two N M s t) : s.held.Perm (t.held.map Prod.fst) := h.alk.held

theorem Two.opsN {N M : Nat} {s : Pr} {t : RSt} (h : Two N M s t) : t.ops.length = N := by
  have h1 := congrArg List.length h.known
  rw [h.fit.len] at h1
  simpa [RSt.known] using h1

theorem sum_mem {l : List Nat} {n : Nat} (h : n ∈ l) : n ≤ l.sum := by
  induction l with
  | nil => cases h
  | cons a r ih =>
    rw [List.sum_cons]
    rcases List.mem_cons.1 h with rfl | h
    · omega
    · have := ih h; omega

theorem Two.opsLen {N M : Nat} {s : Pr} {t : RSt} (h : Two N M s t) : ∀ l ∈ t.ops, l.length ≤ M := fun l hl => by
  have h1 : l.length ∈ t.known := by simp only [RSt.known, List.mem_map]; exact ⟨l, hl, rfl⟩
  rw [h.known] at h1
  have h2 := sum_mem h1
  have h3 := h.few
  unfold ksize at h3
  omega

theorem Two.rowLen {N M : Nat} {s : Pr} {t : RSt} (h : Two N M s t) : s.row.length ≤ M := by
  have := h.len
  unfold psize at this
  omega

theorem Two.k {N M : Nat} {s : Pr} {t : RSt} (h : Two N M s t) : (t.known[t.me]?).getD 0 = s.k s.me := by
  rw [h.known, h.me]; unfold Pr.k; rw [List.getD_eq_getElem?_getD]

theorem Two.heldR {N M : Nat} {s : Pr} {t : RSt} (h : Two N M s t) : ∀ o ∈ t.held, RightOp N o.1 := fun o ho =>
  h.fit.held o.1 (h.held.mem_iff.2 (List.mem_map_of_mem ho))

theorem Two.heldLen {N M : Nat} {s : Pr} {t : RSt} (h : Two N M s t) : t.held.length = s.held.length := by
  have := h.held.length_eq
  simpa using this.symm

theorem Two.in_ {N M : Nat} {s : Pr} {t : RSt} (h : Two N M s t) : t.In := fun o ho => by rw [h.opsN]; exact (h.heldR o ho).peer

/-- P8, P9 on both sides: an operation, and what can be delivered behind it. -/
theorem Two.deliver {N M : Nat} {s : Pr} {t : RSt} (h : Two N M s t) {o : Ope} (ho : RightOp N o) (hc : o.num = s.k o.peer + 1) (sv : Value) :
    Two N (M + 1) (s.deliverF o).1 (t.deliverR (o, sv)).1 ∧ (s.deliverF o).2 = (t.deliverR (o, sv)).2 := by
  have hp : o.peer < t.ops.length := by rw [h.opsN]; exact ho.peer
  obtain ⟨d1, d2⟩ := deliverR_pr t h.in_ (o, sv) hp
  obtain ⟨a, b, c⟩ := settleF_sim s.held.length _ _ (Alk.apply h.alk o) h.inRow
  have hl : t.pr.held.length = s.held.length := h.held.length_eq.symm
  have hfit := h.fit.apply ho hc
  obtain ⟨f1, f2⟩ := settleF_fit s.held.length _ hfit
  obtain ⟨g1, g2, _⟩ := settleF_more s.held.length _ hfit (apply_els h.els ho)
  have e1 : (t.pr.deliver o).1 = (Go.Chorus.settle s.held.length (t.pr.apply o)).1 := by unfold Pr.deliver; rw [hl]
  have e2 : (t.pr.deliver o).2 = (Go.Chorus.settle s.held.length (t.pr.apply o)).2 + 1 := by unfold Pr.deliver; rw [hl]
  refine ⟨⟨f1, ?_, b, g1, ?_, ?_⟩, ?_⟩
  · rw [d1, e1]; exact a
  · have := size_apply s o
    have := h.len
    exact Nat.le_trans f2 (by omega)
  · have := ksize_apply s o (by rw [h.fit.len]; exact ho.peer)
    have := h.few
    exact Nat.le_trans g2 (by omega)
  · rw [d2, e2, ← c]; rfl

theorem deliverF_me {N : Nat} {s : Pr} (h : Fit N s) (e : ElsOk N s.row) {o : Ope} (ho : RightOp N o) (hc : o.num = s.k o.peer + 1) : (s.deliverF o).1.me = s.me :=
  (settleF_more s.held.length _ (h.apply ho hc) (apply_els e ho)).2.2

end Go.Proofs.YtgfafbanahiigaaGreat
