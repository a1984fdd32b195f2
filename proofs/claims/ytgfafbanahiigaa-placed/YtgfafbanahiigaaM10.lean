/- What comes by rising clocks is delivered as it comes; of no program. -/
import Derived.Test.YtgfafbanahiigaaM5
set_option linter.unusedVariables false
set_option linter.unusedSimpArgs false
namespace Go.Chorus

theorem HistOk.there {H : List Ope} (h : HistOk H) (p n : Nat) (h1 : 1 ≤ n) (h2 : n ≤ cnt H p) : ∃ q ∈ H, q.peer = p ∧ q.num = n := by
  induction h with
  | nil => simp only [cnt] at h2; omega
  | @cons o H h num own made whole clock pos name ih =>
    simp only [cnt] at h2
    by_cases hp : o.peer = p
    · rw [if_pos hp] at h2
      by_cases hn : n = cnt H p + 1
      · exact ⟨o, by simp, hp, by rw [num, hp, hn]⟩
      · obtain ⟨q, hq, hh⟩ := ih (by omega)
        exact ⟨q, by simp [hq], hh⟩
    · rw [if_neg hp] at h2
      obtain ⟨q, hq, hh⟩ := ih (by omega)
      exact ⟨q, by simp [hq], hh⟩

/-- P7: one after the other; at the first error the call ends. -/
def recvAll : Pr → List Ope → Pr × Nat × Int
  | s, [] => (s, 0, 0)
  | s, o :: r =>
    if (s.one o).2.2 ≠ 0 then s.one o
    else ((recvAll (s.one o).1 r).1, (s.one o).2.1 + (recvAll (s.one o).1 r).2.1, (recvAll (s.one o).1 r).2.2)

/-- What is received by rising clocks, nothing left out, is delivered as it comes. -/
theorem recv_rising {N : Nat} {H : List Ope} (h : HistOk H) (hg : InGroup N H) : ∀ (L : List Ope) (s : Pr), PeerOk N H s → (∀ x ∈ L, x ∈ H) → L.Pairwise (fun a b => a.clock ≤ b.clock) →
    (∀ x ∈ L, ∀ q ∈ H, q.num ≤ sn x q.peer → q.num ≤ s.k q.peer ∨ q ∈ L) →
    PeerOk N H (recvAll s L).1 ∧ (recvAll s L).2.2 = 0 ∧ (recvAll s L).1.me = s.me ∧ (∀ j, s.k j ≤ (recvAll s L).1.k j) ∧ (recvAll s L).1.known.sum = s.known.sum + (recvAll s L).2.1 ∧ ∀ x ∈ L, x.num ≤ (recvAll s L).1.k x.peer := by
  intro L
  induction L with
  | nil => intro s p _ _ _; exact ⟨p, rfl, rfl, fun j => Nat.le_refl _, rfl, fun x hx => by cases hx⟩
  | cons x r ih =>
    intro s p hL hs hc
    have hx : x ∈ H := hL x (by simp)
    obtain ⟨hs1, hs2⟩ := List.pairwise_cons.1 hs
    have ok := one_ok h hg p hx
    have hof := h.of x hx
    -- all that its maker knew is known here
    have hseen : ∀ q ∈ H, q.num ≤ sn x q.peer → q.num ≤ s.k q.peer := by
      intro q hq hqs
      rcases hc x (by simp) q hq hqs with h1 | h1
      · exact h1
      · exfalso
        have hlt := (hof.2.2.2 q hq hqs).2
        rcases List.mem_cons.1 h1 with rfl | h1
        · omega
        · have := hs1 q h1; omega
    have hle : ∀ j, sn x j ≤ s.k j := by
      intro j
      by_cases h0 : sn x j = 0
      · omega
      · obtain ⟨q, hq, hp, hn⟩ := h.there j (sn x j) (by omega) (hof.2.1 j)
        have := hseen q hq (by rw [hp, hn]; exact Nat.le_refl _)
        rw [hp, hn] at this; exact this
    -- it is delivered, or was
    have hcame : x.num ≤ (s.one x).1.k x.peer ∧ (s.one x).2.2 = 0 := by
      by_cases hd : x.num ≤ s.k x.peer
      · obtain ⟨h1, h2, h3⟩ := ok.old hd
        exact ⟨by rw [h3]; exact hd, h2⟩
      · have hcan : s.can x = true := (can_iff s x).2 ⟨by have := hle x.peer; have := hof.2.2.1; omega, fun j _ => hle j⟩
        refine ⟨ok.came hcan, ?_⟩
        rcases ok.which with h1 | ⟨_, _, h1⟩
        · exact h1
        · exfalso
          have := ok.came hcan
          rw [h1] at this; exact hd this
    have hgrow := ok.grow
    obtain ⟨i1, i2, i3, i4, i5, i6⟩ := ih (s.one x).1 ok.ok (fun y hy => hL y (by simp [hy])) hs2 (by
      intro y hy q hq hqs
      rcases hc y (by simp [hy]) q hq hqs with h1 | h1
      · exact Or.inl (Nat.le_trans h1 (hgrow _))
      · rcases List.mem_cons.1 h1 with rfl | h1
        · exact Or.inl hcame.1
        · exact Or.inr h1)
    have e : recvAll s (x :: r) = ((recvAll (s.one x).1 r).1, (s.one x).2.1 + (recvAll (s.one x).1 r).2.1, (recvAll (s.one x).1 r).2.2) := by
      show (if (s.one x).2.2 ≠ 0 then _ else _) = _
      rw [if_neg (by rw [hcame.2]; simp)]
    rw [e]
    refine ⟨i1, i2, i3.trans ok.me, fun j => Nat.le_trans (hgrow j) (i4 j), ?_, ?_⟩
    · show (recvAll (s.one x).1 r).1.known.sum = s.known.sum + ((s.one x).2.1 + (recvAll (s.one x).1 r).2.1)
      rw [i5, ok.sum]; omega
    · intro y hy
      rcases List.mem_cons.1 hy with rfl | hy
      · exact Nat.le_trans hcame.1 (i4 _)
      · exact i6 y hy

/-- What one peer has and another one lacks (P10): nothing is left out. -/
theorem rest_closed {N : Nat} {H : List Ope} {a b : Pr} (pa : PeerOk N H a) (pb : PeerOk N H b) (L : List Ope) (hL : ∀ x, x ∈ L ↔ x ∈ H ∧ x.num ≤ b.k x.peer ∧ a.k x.peer < x.num) :
    ∀ x ∈ L, ∀ q ∈ H, q.num ≤ sn x q.peer → q.num ≤ a.k q.peer ∨ q ∈ L := by
  intro x hx q hq hqs
  obtain ⟨h1, h2, h3⟩ := (hL x).1 hx
  by_cases hk : q.num ≤ a.k q.peer
  · exact Or.inl hk
  · exact Or.inr ((hL q).2 ⟨hq, Nat.le_trans hqs (pb.1.view.causal x h1 h2 q.peer), by omega⟩)

end Go.Chorus
