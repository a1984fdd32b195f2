import Derived.Test.YtgfafbanahiigaaV11
set_option linter.unusedVariables false
set_option linter.unusedSimpArgs false
namespace Go.Proofs.Ytgfafbanahiigaa
open Go.RowKit Go.Chorus

open Classical in
/-- P7 of one packet: any bytes. -/
noncomputable def recvF (N : Nat) (s : Pr) (l : List UInt8) : Pr × Nat × Int := if Right N l then s.oneF (fieldsOf N l) else (s, 0, 6)

theorem turn_delivered {N : Nat} {s s'' : Pr} {o : Ope} {bp g : Nat} {bk bk5 bk6 : Log} {rv rv5 hv rv6 hv6 : Value} {ms ms6 : List MOp} {w w4 w5 w6 : World} {d : Nat} (hk4 : Kept (fun _ => False) w w4) (K5 : Kept (Foot bp bk rv) w4 w5) (B5 : ∀ k, Foot bp bk5 rv5 k → Foot bp bk rv k ∨ w4.heap.size ≤ k) (S5 : ∀ k, bk5.Seen k → bk.Seen k ∨ k = g) (hg : w.heap.size ≤ g)
    (D : DSt N (s.apply o) bp bk6 (Wr bp bk5 rv5 hv) (Own bp bk5 rv5 hv ms) w5 w6 s'' d rv6 hv6 ms6) : Turn bp (Own bp bk rv hv ms) w w6 s'' := by
  have hown : ∀ k, Own bp bk5 rv5 hv ms k → Own bp bk rv hv ms k ∨ w.heap.size ≤ k := by
    rintro k (hk | hk | hk | hk)
    · rcases B5 k hk with h | h
      · exact Or.inl (Or.inl h)
      · exact Or.inr (Nat.le_trans hk4.size h)
    · exact Or.inl (Or.inr (Or.inl hk))
    · exact Or.inl (Or.inr (Or.inr (Or.inl hk)))
    · rcases S5 k hk with h | h
      · exact Or.inl (Or.inr (Or.inr (Or.inr h)))
      · rw [h]; exact Or.inr hg
  refine ⟨Own bp bk6 rv6 hv6 ms6, ⟨bk6, rv6, hv6, ms6, D.peer, D.held, D.ops, rfl⟩, ?_, fun k hk => ?_⟩
  · refine ((hk4.mono (S' := Own bp bk rv hv ms) (fun _ _ h => h.elim)).trans K5 (fun i _ h => Or.inl h)).trans D.kept (fun i hi h => ?_)
    have h : Own bp bk5 rv5 hv ms i := by
      rcases h with h | h
      · exact Or.inl h
      · exact Or.inr (Or.inl h)
    rcases hown i h with h | h
    · exact h
    · omega
  · rcases D.own k hk with h | h
    · exact hown k h
    · exact Or.inr (Nat.le_trans (Nat.le_trans hk4.size K5.size) h)

theorem turn_waits {N : Nat} {s : Pr} {o : Ope} {bp g cap : Nat} {bk : Log} {rv hv hv5 : Value} {ms : List MOp} {w w4 w5 : World} (hk4 : Kept (fun _ => False) w w4) (P : PeerS w4 bp s bk rv hv) (H : HeldAt w4 hv ms) (ho : ms.map MOp.o = s.held) (hgw : w.heap.size ≤ g) (hg : w4.heap[g]? = some (.cells (u32s o.seen) 65 (0, 0)))
    (x1 : w5.ownsRow 0 80 8 hv5 (ms.length + 1) (opsCells (ms.take (placeM o.peer ms 0) ++ ⟨o, g, cap⟩ :: ms.drop (placeM o.peer ms 0))))
    (x2 : w5.heap[bp]? = some (.cells ((#[.int .u8 s.me, .int .u32 s.clock, .slice (some ⟨bk.b, 0, none⟩) s.known.length s.known.length, rv, hv] : Array Value).setIfInBounds 4 hv5) 71 (0, 0)))
    (x3 : Kept (fun k => k = bp ∨ hv.ownBlock = some k) w4 w5) (x4 : ∀ k, hv5.ownBlock = some k → hv.ownBlock = some k ∨ w4.heap.size ≤ k) : Turn bp (Own bp bk rv hv ms) w w5 { s with held := waitIn s.held o } := by
  have hap := H.apart P
  have hlen : (ms.take (placeM o.peer ms 0) ++ (⟨o, g, cap⟩ : MOp) :: ms.drop (placeM o.peer ms 0)).length = ms.length + 1 := by simp; have := placeM_le o.peer ms; omega
  refine ⟨Own bp bk rv hv5 (ms.take (placeM o.peer ms 0) ++ ⟨o, g, cap⟩ :: ms.drop (placeM o.peer ms 0)), ⟨bk, rv, hv5, _, ⟨x2, P.log.keep x3 ?_ ?_, ownsRow_kept P.row x3 ?_, ?_, P.ops⟩, ⟨by rw [hlen]; exact x1, ?_⟩, ?_, rfl⟩, ?_, ?_⟩
  · rintro b hb (e | e)
    · subst e; exact P.log.off P.block (by decide) (by decide) hb
    · exact hap.1 b e (Or.inr (Or.inl hb))
  · rintro b hb (e | e)
    · subst e; exact P.log.seenOff P.block (by decide) hb
    · exact hap.2.2 b e hb
  · rintro b hb (e | e)
    · subst e; exact own_ne P.row P.block (by decide) hb
    · exact hap.1 b e (Or.inr (Or.inr hb))
  · intro v hv' b hb hb5
    rcases x4 b hb5 with e | e
    · exact P.off v hv' b hb e
    · have := P.log.lt.1 b (Or.inr ⟨v, hv', hb⟩); omega
  · have hold : ∀ m ∈ ms, SeenAt w5 m := fun m hm => by
      obtain ⟨cur, b, c⟩ := H.seen m hm
      refine ⟨cur, x3.heap b ?_, c⟩
      rintro (e | e)
      · exact hap.2.1 m hm (Or.inl e)
      · exact own_ne H.row b (by decide) e
    intro m hm
    simp only [List.mem_append, List.mem_cons] at hm
    rcases hm with hm | rfl | hm
    · exact hold m (List.mem_of_mem_take hm)
    · refine ⟨_, x3.heap hg ?_, fun i n hi => by rw [u32s_at, hi]; rfl⟩
      rintro (e | e)
      · have h1 := P.block; rw [← e, hg] at h1; simp at h1
      · exact own_ne H.row hg (by decide) e
    · exact hold m (List.mem_of_mem_drop hm)
  · show List.map MOp.o (_ ++ _ :: _) = waitIn s.held o
    unfold waitIn placeM
    rw [← ho, List.map_append, List.map_cons, List.map_take, List.map_drop]
  · refine (hk4.mono (S' := Own bp bk rv hv ms) (fun _ _ h => h.elim)).trans x3 (fun i _ h => ?_)
    rcases h with h | h
    · exact Or.inl (Or.inl h)
    · exact Or.inr (Or.inl h)
  · have hsz := hk4.size
    rintro k (hk | hk | ⟨m, hm, rfl⟩ | hk)
    · exact Or.inl (Or.inl hk)
    · rcases x4 k hk with h | h
      · exact Or.inl (Or.inr (Or.inl h))
      · exact Or.inr (Nat.le_trans hsz h)
    · simp only [List.mem_append, List.mem_cons] at hm
      rcases hm with hm | rfl | hm
      · exact Or.inl (Or.inr (Or.inr (Or.inl ⟨m, List.mem_of_mem_take hm, rfl⟩)))
      · exact Or.inr hgw
      · exact Or.inl (Or.inr (Or.inr (Or.inl ⟨m, List.mem_of_mem_drop hm, rfl⟩)))
    · exact Or.inl (Or.inr (Or.inr (Or.inr hk)))

theorem settleF_num (f : Nat) (s : Pr) : (settleF f s).2 ≤ f := by
  induction f generalizing s with
  | zero => exact Nat.le_refl _
  | succ f ih =>
    unfold settleF
    split
    · omega
    · exact Nat.succ_le_succ (ih _)

end Go.Proofs.Ytgfafbanahiigaa
