import Derived.Test.YtgmbigjdaliadaaV11
set_option linter.unusedVariables false
set_option linter.unusedSimpArgs false
namespace Go.Proofs.Ytgmbigjdaliadaa
open Go.RowKit Go.Chorus

open Classical in
/-- P7 of one packet: any bytes. -/
noncomputable def recvF (N : Nat) (s : Pr) (l : List UInt8) : Pr × Nat × Int := if Right N l then s.oneF (fieldsOf N l) else (s, 0, 6)

theorem turn_delivered {N : Nat} {s s'' : Pr} {o : Ope} {bp bk : Nat} {rv rv5 hv rv6 hv6 : Value} {ms ms6 : List MOp} {w w4 w5 w6 : World} {d : Nat} (hk4 : Kept (fun _ => False) w w4) (K5 : Kept (Foot bp bk rv) w4 w5) (B5 : ∀ k, rv5.ownBlock = some k → rv.ownBlock = some k ∨ w4.heap.size ≤ k)
    (D : DSt N (s.apply o) bp bk (Own bp bk rv5 hv ms) w5 w6 s'' d rv6 hv6 ms6) : Turn bp (Own bp bk rv hv ms) w w6 s'' := by
  have hown : ∀ k, Own bp bk rv5 hv ms k → Own bp bk rv hv ms k ∨ w4.heap.size ≤ k := by
    rintro k ((rfl | rfl | hk) | hk | hk)
    · exact Or.inl (Or.inl (Or.inl rfl))
    · exact Or.inl (Or.inl (Or.inr (Or.inl rfl)))
    · rcases B5 k hk with h | h
      · exact Or.inl (Or.inl (Or.inr (Or.inr h)))
      · exact Or.inr h
    · exact Or.inl (Or.inr (Or.inl hk))
    · exact Or.inl (Or.inr (Or.inr hk))
  refine ⟨Own bp bk rv6 hv6 ms6, ⟨bk, rv6, hv6, ms6, D.peer, D.held, D.ops, rfl⟩, ?_, fun k hk => ?_⟩
  · refine ((hk4.mono (S' := Own bp bk rv hv ms) (fun _ _ h => h.elim)).trans K5 (fun i _ h => Or.inl h)).trans D.kept (fun i hi h => ?_)
    rcases hown i h with h | h
    · exact h
    · have := hk4.size; omega
  · rcases D.own k hk with h | h
    · rcases hown k h with h | h
      · exact Or.inl h
      · exact Or.inr (Nat.le_trans hk4.size h)
    · exact Or.inr (Nat.le_trans (Nat.le_trans hk4.size K5.size) h)

theorem turn_waits {N : Nat} {s : Pr} {o : Ope} {bp bk g cap : Nat} {rv hv hv5 : Value} {ms : List MOp} {w w4 w5 : World} (hk4 : Kept (fun _ => False) w w4) (P : PeerS w4 bp s bk rv hv) (H : HeldAt w4 hv bk ms) (ho : ms.map MOp.o = s.held) (hgw : w.heap.size ≤ g) (hbk : bk < w.heap.size) (hg : w4.heap[g]? = some (.cells (u32s o.seen) 73 (0, 0)))
    (x1 : w5.ownsRow 0 87 8 hv5 (ms.length + 1) (opsCells (ms.take (placeM o.peer ms 0) ++ ⟨o, g, cap⟩ :: ms.drop (placeM o.peer ms 0))))
    (x2 : w5.heap[bp]? = some (.cells ((#[.int .u8 s.me, .int .u32 s.clock, .slice (some ⟨bk, 0, none⟩) s.known.length s.known.length, rv, hv] : Array Value).setIfInBounds 4 hv5) 79 (0, 0)))
    (x3 : Kept (fun k => k = bp ∨ hv.ownBlock = some k) w4 w5) (x4 : ∀ k, hv5.ownBlock = some k → hv.ownBlock = some k ∨ w4.heap.size ≤ k) : Turn bp (Own bp bk rv hv ms) w w5 { s with held := waitIn s.held o } := by
  have hap := H.apart P
  have hbb := PeerAt.ne P
  have hlen : (ms.take (placeM o.peer ms 0) ++ (⟨o, g, cap⟩ : MOp) :: ms.drop (placeM o.peer ms 0)).length = ms.length + 1 := by simp; have := placeM_le o.peer ms; omega
  refine ⟨Own bp bk rv hv5 (ms.take (placeM o.peer ms 0) ++ ⟨o, g, cap⟩ :: ms.drop (placeM o.peer ms 0)), ⟨bk, rv, hv5, _, ⟨x2, x3.heap P.knownB ?_, ownsRow_kept P.row x3 ?_⟩, ⟨by rw [hlen]; exact x1, ?_⟩, ?_, rfl⟩, ?_, ?_⟩
  · rintro (e | e)
    · exact hbb e.symm
    · exact hap.1 bk e (Or.inr (Or.inl rfl))
  · rintro b hb (e | e)
    · subst e; exact own_ne P.row P.block (by decide) hb
    · exact hap.1 b e (Or.inr (Or.inr hb))
  · have hold : ∀ m ∈ ms, m.g ≠ bk ∧ ∃ cur, w5.heap[m.g]? = some (.cells cur 73 (0, 0)) ∧ ∀ (i n : Nat), m.o.seen[i]? = some n → cur[i]? = some (.int .u32 (n : Int)) := fun m hm => by
      obtain ⟨a, cur, b, c⟩ := H.seen m hm
      refine ⟨a, cur, x3.heap b ?_, c⟩
      rintro (e | e)
      · exact hap.2 m hm (Or.inl e)
      · exact own_ne H.row b (by decide) e
    intro m hm
    simp only [List.mem_append, List.mem_cons] at hm
    rcases hm with hm | rfl | hm
    · exact hold m (List.mem_of_mem_take hm)
    · refine ⟨by show g ≠ bk; omega, _, x3.heap hg ?_, fun i n hi => by rw [u32s_at, hi]; rfl⟩
      rintro (e | e)
      · have h1 := P.block; rw [← e, hg] at h1; simp at h1
      · exact own_ne H.row hg (by decide) e
    · exact hold m (List.mem_of_mem_drop hm)
  · show List.map MOp.o (_ ++ _ :: _) = waitIn s.held o
    unfold waitIn placeM
    rw [← ho, List.map_append, List.map_cons, List.map_take, List.map_drop]
  · refine (hk4.mono (S' := Own bp bk rv hv ms) (fun _ _ h => h.elim)).trans x3 (fun i _ h => ?_)
    rcases h with h | h
    · exact Or.inl (Or.inl h)
    · exact Or.inr (Or.inl h)
  · have hsz := hk4.size
    rintro k (hk | hk | ⟨m, hm, rfl⟩)
    · exact Or.inl (Or.inl hk)
    · rcases x4 k hk with h | h
      · exact Or.inl (Or.inr (Or.inl h))
      · exact Or.inr (Nat.le_trans hsz h)
    · simp only [List.mem_append, List.mem_cons] at hm
      rcases hm with hm | rfl | hm
      · exact Or.inl (Or.inr (Or.inr ⟨m, List.mem_of_mem_take hm, rfl⟩))
      · exact Or.inr hgw
      · exact Or.inl (Or.inr (Or.inr ⟨m, List.mem_of_mem_drop hm, rfl⟩))

theorem settleF_num (f : Nat) (s : Pr) : (settleF f s).2 ≤ f := by
  induction f generalizing s with
  | zero => exact Nat.le_refl _
  | succ f ih =>
    unfold settleF
    split
    · omega
    · exact Nat.succ_le_succ (ih _)

end Go.Proofs.Ytgmbigjdaliadaa
