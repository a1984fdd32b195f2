import Derived.Test.YtgfafbanahiigaaV19a
import Derived.Test.YtgfafbanahiigaaMG
set_option linter.unusedVariables false
set_option linter.unusedSimpArgs false
namespace Go.Proofs.Ytgfafbanahiigaa
open Go.RowKit Go.Chorus

/-- What a program's Receive of right packets does is what the document's does. -/
theorem recvAllF_sim {N : Nat} : ∀ (L : List Ope), (∀ o ∈ L, RightOp N o) → ∀ s t : Pr, Alk s t → InRow s.held →
    Alk (recvAllF N s (L.map Ope.packet)).1 (recvAll t L).1 ∧ InRow (recvAllF N s (L.map Ope.packet)).1.held ∧ (recvAllF N s (L.map Ope.packet)).2 = (recvAll t L).2 := by
  intro L
  induction L with
  | nil => intro _ s t h hr; exact ⟨h, hr, rfl⟩
  | cons o L ih =>
    intro hR s t h hr
    have e1 := recvF_packet (hR o (by simp)) s
    obtain ⟨a, b, c⟩ := oneF_sim h hr o
    have c2 : (s.oneF o).2.2 = (t.one o).2.2 := by rw [c]
    have c1 : (s.oneF o).2.1 = (t.one o).2.1 := by rw [c]
    show Alk (recvAllF N s (o.packet :: L.map Ope.packet)).1 _ ∧ InRow (recvAllF N s (o.packet :: L.map Ope.packet)).1.held ∧ (recvAllF N s (o.packet :: L.map Ope.packet)).2 = _
    unfold recvAllF recvAll
    rw [e1]
    by_cases h0 : (t.one o).2.2 = 0
    · rw [if_pos (by rw [c2]; exact h0), if_neg (by rw [h0]; simp)]
      obtain ⟨x, y, z⟩ := ih (fun q hq => hR q (by simp [hq])) _ _ a b
      exact ⟨x, y, by simp only [z, c1]⟩
    · rw [if_neg (by rw [c2]; exact h0), if_pos h0]
      exact ⟨a, b, c⟩

/-- P10 with the program's Receive: who receives the rest of another one knows all that the other one knows. -/
theorem rest_joinsF {N : Nat} {H : List Ope} {s t : Pr} {L : List Ope} (h : HistOk H) (hg : InGroup N H) (hR : ∀ o ∈ H, RightOp N o) (p : PeerOk N H s) (hr : InRow s.held) (q : PeerOk N H t) (hm : Merged (above s.known t.log) L) :
    PeerOk N H (recvAllF N s (L.map Ope.packet)).1 ∧ InRow (recvAllF N s (L.map Ope.packet)).1.held ∧ (recvAllF N s (L.map Ope.packet)).2.2 = 0 ∧ (recvAllF N s (L.map Ope.packet)).1.me = s.me ∧ (∀ j, s.k j ≤ (recvAllF N s (L.map Ope.packet)).1.k j) ∧ (∀ j, t.k j ≤ (recvAllF N s (L.map Ope.packet)).1.k j) := by
  have hin : ∀ x ∈ L, x ∈ H := fun x hx => by
    obtain ⟨j, l, hl, hxl, _⟩ := (above_mem q.1.log s.known x).1 ((hm.mem x).1 hx)
    obtain ⟨i, hi, hxe⟩ := List.getElem_of_mem hxl
    exact ((q.1.log.each j l hl).2 i x (by rw [List.getElem?_eq_getElem hi, hxe])).1
  obtain ⟨a, b, c⟩ := recvAllF_sim L (fun o ho => hR o (hin o ho)) s s (Alk.refl s) hr
  obtain ⟨r1, r2, r3, r4, r5⟩ := rest_joins h hg p q hm
  refine ⟨a.ok r1, b, by rw [c]; exact r2, by rw [a.me]; exact r3, fun j => by rw [a.k]; exact r4 j, fun j => by rw [a.k]; exact r5 j⟩

end Go.Proofs.Ytgfafbanahiigaa
