import Derived.Test.YtgfafbanahiigaaGreatV11
import Derived.Test.YtgfafbanahiigaaGreatV4
import Derived.Deep.QuietTactic
import Derived.BigQuiet
import Derived.Deep.RegionWith
import Derived.BigRegion
import Derived.Deep.DeepCutAuto
import Derived.Lib.QuietBelow
set_option linter.unusedVariables false
set_option linter.unusedSimpArgs false
namespace Go.Proofs.YtgfafbanahiigaaGreat
open Go.RowKit Go.Chorus
open Classical in
theorem turn_delivered {N : Nat} {s s'' : Pr} {o : Ope} {bp g : Nat} {bk bk5 bk6 : Log} {rv rv5 hv rv6 hv6 : Value} {ms ms6 : List MOp} {w w4 w5 w6 : World} {d : Nat} (hk4 : Kept (fun _ => False) w w4) (K5 : Kept (Foot bp bk rv) w4 w5) (B5 : ∀ k, Foot bp bk5 rv5 k → Foot bp bk rv k ∨ w4.heap.size ≤ k) (S5 : ∀ k, bk5.Seen k → bk.Seen k ∨ k = g) (hg : w.heap.size ≤ g)
  (D : DSt N (s.apply o) bp bk6 (Wr bp bk5 rv5 hv) (Own bp bk5 rv5 hv ms) w5 w6 s'' d rv6 hv6 ms6) : Turn bp (Own bp bk rv hv ms) w w6 s'' := by
 have hown : ∀ k, Own bp bk5 rv5 hv ms k → Own bp bk rv hv ms k ∨ w.heap.size ≤ k := by
  rintro k (hk | hk | hk | hk)
  ·rcases B5 k hk with h | h
   ·exact Or.inl (Or.inl h)
   ·exact Or.inr (Nat.le_trans hk4.size h)
  ·exact Or.inl (Or.inr (Or.inl hk))
  ·exact Or.inl (Or.inr (Or.inr (Or.inl hk)))
  ·rcases S5 k hk with h | h
   ·exact Or.inl (Or.inr (Or.inr (Or.inr h)))
   ·rw [h]; exact Or.inr hg
 refine ⟨Own bp bk6 rv6 hv6 ms6, ⟨bk6, rv6, hv6, ms6, D.peer, D.held, D.ops, rfl⟩, ?_, fun k hk => ?_⟩
 ·refine ((hk4.mono (S' := Own bp bk rv hv ms) (fun _ _ h => h.elim)).trans K5 (fun i _ h => Or.inl h)).trans D.kept (fun i hi h => ?_)
  have h : Own bp bk5 rv5 hv ms i := by
   rcases h with h | h
   ·exact Or.inl h
   ·exact Or.inr (Or.inl h)
  rcases hown i h with h | h
  ·exact h
  ·omega
 ·rcases D.own k hk with h | h
  ·exact hown k h
  ·exact Or.inr (Nat.le_trans (Nat.le_trans hk4.size K5.size) h)
end Go.Proofs.YtgfafbanahiigaaGreat
set_option linter.unusedVariables false
set_option linter.unusedSimpArgs false
namespace Go.Proofs.YtgfafbanahiigaaGreat
open Go.RowKit Go.Chorus Go.Sort
end Go.Proofs.YtgfafbanahiigaaGreat
