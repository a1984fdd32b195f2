/- The input's steps, as the rows hand them in. -/
import Derived.Test.YtgfafbanahiigaaV21
import Derived.ProofKit
import Derived.OpenShut
import Derived.ShutString
import Derived.ChangeOld
import Derived.Below
import Derived.Deep.Slices
set_option linter.unusedVariables false
namespace Go.Proofs.Ytgfafbanahiigaa
open Go.ChangeShapes Go.WideShapes Go.ChangeAt Go.RowKit Go.Chorus Go.Deep

theorem own : ownKnob Try.prog.godebug = none := by kernel_rfl
theorem laidOut : laidOutB Try.prog = true := by kernel_rfl
theorem cellsStep : Try.prog.cellsOf 31 = 4 := by kernel_rfl
theorem cellsInt : Try.prog.cellsOf 3 = 1 := by kernel_rfl
theorem fieldsStep : ∃ fs : Array Field, Try.prog.underlying 31 = some (.struct fs) ∧ ∀ j, j < 4 → (fs[j]?.map fun f => (f.type, f.offset)) = some (3, j) := ⟨_, Try.underlying31, fun j hj => by
  match j, hj with
  | 0, _ => rfl
  | 1, _ => rfl
  | 2, _ => rfl
  | 3, _ => rfl⟩

theorem i64_range (n : Int) (h : (Lit.int .i64 n).wf = true) : i64ok n := by
  simpa [Lit.wf, IntKind.min, IntKind.max, IntKind.signed, IntKind.bits, i64ok] using h

theorem step_field {H : Type} {enc : TypeId × Value → H} {w : World} {base : Nat} {spare : Nat → Bool} {held : Bool} {fuel : Nat} {cs : List Value} {x : DataW H × List MemPlace}
    (h : DataW.trod enc Try.prog w base spare held fuel 31 cs = some x) (j : Nat) (hj : j < 4) : ∃ n : Int, cs[j]? = some (.int .i64 n) ∧ i64ok n := by
  obtain ⟨fs, hu, ff⟩ := fieldsStep
  obtain ⟨xs, n, _, _, hl, hlen, hf⟩ := DataW.trod_struct hu h
  obtain ⟨g0, hg0, e0⟩ := Option.map_eq_some_iff.1 (ff j hj)
  simp only [Prod.mk.injEq] at e0
  have h0 := hf j g0 hg0
  rw [e0.1, e0.2, cellsInt] at h0
  have l0 : j < xs.length := by rw [hlen]; exact (Array.getElem?_eq_some_iff.1 hg0).1
  rw [List.getElem?_eq_getElem l0] at h0
  obtain ⟨kd, c0, _, r0⟩ := DataW.trod_int Try.underlying3 h0
  refine ⟨kd, ?_, i64_range _ r0⟩
  have h3 : ((cs.drop j).take 1)[0]? = some (.int .i64 kd) := by rw [c0]; rfl
  simpa using h3

theorem steps_of {H : Type} {enc : TypeId × Value → H} {W : World} {a0 : Option Addr} {len0 cap0 : Nat} {d : DataW H} {p : List MemPlace}
    (h : DataW.Trod enc Try.prog W 0 (fun _ => true) true 22 (.slice a0 len0 cap0) d p) : StepsAt W a0 len0 ∧ len0 ≤ 9223372036854775807 := by
  obtain ⟨fuel, hf⟩ := h
  rcases open_slice Try.underlying22 hf with ⟨hcs, _⟩ | ⟨a, len, cap, m, n, D, Pl, hcs, _, hl, hm, hmm, _, hcell⟩
  · simp [Value.cells] at hcs
    obtain ⟨rfl, rfl, rfl⟩ := hcs
    exact ⟨fun i hi => absurd hi (Nat.not_lt_zero _), by omega⟩
  · simp [Value.cells] at hcs
    obtain ⟨rfl, rfl, rfl⟩ := hcs
    unfold maxLen at hm
    refine ⟨fun i hi => ?_, by omega⟩
    have key : ∀ i, i < len0 → ∀ j, j < 4 → ∃ n : Int, W.cell? ((a.add (i * 4)).add j) = some (.int .i64 n) ∧ i64ok n := fun i hi j hj => by
      obtain ⟨cs', hc, ht⟩ := hcell i (by rw [hmm]; simp; omega)
      rw [cellsStep] at hc
      obtain ⟨_, hlen, hcells⟩ := World.cells?_some hc
      obtain ⟨n, k0, r0⟩ := step_field ht j hj
      exact ⟨n, (hcells j (by omega)).trans k0, r0⟩
    have hspot : a.spot = none := by
      obtain ⟨n, c0, _⟩ := key 0 (by omega) 0 (by decide)
      have := World.cell?_spot c0
      simpa [Addr.add] using this
    obtain ⟨kd, c0, r0⟩ := key i hi 0 (by decide)
    obtain ⟨pe, c1, r1⟩ := key i hi 1 (by decide)
    obtain ⟨at_, c2, r2⟩ := key i hi 2 (by decide)
    obtain ⟨wh, c3, r3⟩ := key i hi 3 (by decide)
    obtain ⟨b, off, spot⟩ := a
    obtain rfl : spot = none := hspot
    rw [Addr.add_lit, Addr.add_lit] at c0 c1 c2 c3
    exact ⟨b, off, kd, pe, at_, wh, rfl, by simpa using c0, c1, c2, c3, r0, r1, r2, r3⟩
end Go.Proofs.Ytgfafbanahiigaa
