/- THE STATEMENT OF Placed: what the walk gives, lifted to the row. -/
import Derived.Test.YtgijpjompclonaaW14
import Derived.ProofKit
import Derived.OpenShut
import Derived.ShutString
import Derived.ChangeOld
import Derived.Below
import Derived.Deep.Slices
set_option linter.unusedVariables false
namespace Go.Proofs.Ytgijpjompclonaa
open Go.ChangeShapes Go.WideShapes Go.ChangeAt Go.RowKit Go.Chorus Go.Deep

theorem own : ownKnob Try.prog.godebug = none := by kernel_rfl
theorem laidOut : laidOutB Try.prog = true := by kernel_rfl
theorem cellsStep : Try.prog.cellsOf 34 = 4 := by kernel_rfl
theorem cellsInt : Try.prog.cellsOf 3 = 1 := by kernel_rfl
theorem fieldsStep : ∃ fs : Array Field, Try.prog.underlying 34 = some (.struct fs) ∧ (fs[0]?.map fun f => (f.type, f.offset)) = some (3, 0) ∧ (fs[2]?.map fun f => (f.type, f.offset)) = some (3, 2) := ⟨_, Try.underlying34, rfl, rfl⟩

theorem i64_range (n : Int) (h : (Lit.int .i64 n).wf = true) : -9223372036854775808 ≤ n ∧ n ≤ 9223372036854775807 := by
  simpa [Lit.wf, IntKind.min, IntKind.max, IntKind.signed, IntKind.bits] using h

theorem step_field {H : Type} {enc : TypeId × Value → H} {w : World} {base : Nat} {spare : Nat → Bool} {held : Bool} {fuel : Nat} {cs : List Value} {x : DataW H × List MemPlace}
    (h : DataW.trod enc Try.prog w base spare held fuel 34 cs = some x) : ∃ kd at_ : Int, cs[0]? = some (.int .i64 kd) ∧ cs[2]? = some (.int .i64 at_) ∧ (-9223372036854775808 ≤ kd ∧ kd ≤ 9223372036854775807) ∧ (-9223372036854775808 ≤ at_ ∧ at_ ≤ 9223372036854775807) := by
  obtain ⟨fs, hu, f0, f2⟩ := fieldsStep
  obtain ⟨xs, n, _, _, hl, hlen, hf⟩ := DataW.trod_struct hu h
  obtain ⟨g0, hg0, e0⟩ := Option.map_eq_some_iff.1 f0
  obtain ⟨g2, hg2, e2⟩ := Option.map_eq_some_iff.1 f2
  simp only [Prod.mk.injEq] at e0 e2
  have h0 := hf 0 g0 hg0
  have h2 := hf 2 g2 hg2
  rw [e0.1, e0.2, cellsInt] at h0
  rw [e2.1, e2.2, cellsInt] at h2
  have l0 : 0 < xs.length := by rw [hlen]; exact (Array.getElem?_eq_some_iff.1 hg0).1
  have l2 : 2 < xs.length := by rw [hlen]; exact (Array.getElem?_eq_some_iff.1 hg2).1
  rw [List.getElem?_eq_getElem l0] at h0
  rw [List.getElem?_eq_getElem l2] at h2
  obtain ⟨kd, c0, _, r0⟩ := DataW.trod_int Try.underlying3 h0
  obtain ⟨at_, c2, _, r2⟩ := DataW.trod_int Try.underlying3 h2
  refine ⟨kd, at_, ?_, ?_, i64_range _ r0, i64_range _ r2⟩
  · have : (cs.drop 0).take 1 = [.int .i64 kd] := c0
    have h3 : ((cs.drop 0).take 1)[0]? = some (.int .i64 kd) := by rw [this]; rfl
    simpa using h3
  · have h3 : ((cs.drop 2).take 1)[0]? = some (.int .i64 at_) := by rw [c2]; rfl
    simpa using h3

theorem steps_of {H : Type} {enc : TypeId × Value → H} {W : World} {a0 : Option Addr} {len0 cap0 : Nat} {d : DataW H} {p : List MemPlace}
    (h : DataW.Trod enc Try.prog W 0 (fun _ => true) true 25 (.slice a0 len0 cap0) d p) : StepsAt W a0 len0 ∧ len0 ≤ 9223372036854775807 := by
  obtain ⟨fuel, hf⟩ := h
  rcases open_slice Try.underlying25 hf with ⟨hcs, _⟩ | ⟨a, len, cap, m, n, D, Pl, hcs, _, hl, hm, hmm, _, hcell⟩
  · simp [Value.cells] at hcs
    obtain ⟨rfl, rfl, rfl⟩ := hcs
    exact ⟨fun i hi => absurd hi (Nat.not_lt_zero _), by omega⟩
  · simp [Value.cells] at hcs
    obtain ⟨rfl, rfl, rfl⟩ := hcs
    unfold maxLen at hm
    refine ⟨fun i hi => ?_, by omega⟩
    have key : ∀ i, i < len0 → ∃ kd at_ : Int, W.cell? ((a.add (i * 4)).add 0) = some (.int .i64 kd) ∧ W.cell? ((a.add (i * 4)).add 2) = some (.int .i64 at_) ∧ (-9223372036854775808 ≤ kd ∧ kd ≤ 9223372036854775807) ∧ (-9223372036854775808 ≤ at_ ∧ at_ ≤ 9223372036854775807) := fun i hi => by
      obtain ⟨cs', hc, ht⟩ := hcell i (by rw [hmm]; simp; omega)
      rw [cellsStep] at hc
      obtain ⟨_, hlen, hcells⟩ := World.cells?_some hc
      obtain ⟨kd, at_, k0, k2, r0, r2⟩ := step_field ht
      exact ⟨kd, at_, (hcells 0 (by omega)).trans k0, (hcells 2 (by omega)).trans k2, r0, r2⟩
    have hspot : a.spot = none := by
      obtain ⟨kd, at_, c0, _⟩ := key 0 (by omega)
      have := World.cell?_spot c0
      simpa [Addr.add] using this
    obtain ⟨kd, at_, c0, c2, r0, r2⟩ := key i hi
    obtain ⟨b, off, spot⟩ := a
    obtain rfl : spot = none := hspot
    refine ⟨b, off, kd, at_, rfl, ?_, ?_, r0.1, r0.2, r2.1, r2.2⟩
    · rw [Addr.add_lit, Addr.add_lit] at c0; simpa using c0
    · rw [Addr.add_lit, Addr.add_lit] at c2; exact c2

set_option maxRecDepth 100000 in
theorem placed_lifted (os : Os) (started : os.Started) (H : Type) (enc : TypeId × Value → H) :
    ReturnsInHanded {} Try.checked os 4 .any (Rows.placedSpec.pre6 enc Try.prog Try.f4 Rows.placedRow.domain false) (Rows.placedSpec.post enc Try.prog Try.f4 false true false false) := by
  refine returnsInHanded_of_change (C := Try.checked) own started (by kernel_rfl) Try.func4
    (ChangeSpec.witness6 (enc := enc) (C := Try.checked) false ⟨#[], #[.slice none 0 0], []⟩ 8 (by kernel_rfl) (by kernel_rfl) (by kernel_rfl) (by kernel_rfl)) ?_
  intro W base args ds gs before hval0 hW hcnd _
  have hval : ∀ (j : Nat) t v, Try.f4.params[j]? = some t → args[j]? = some v → Value.okWide Try.prog W .any base t v := hval0
  have hW' := hW
  obtain ⟨p, q, hA0, hV, rfl, hfz, hnd⟩ := hW
  have hA : DataW.TrodAll enc Try.prog W 0 (fun _ => true) true Try.f4.params.toList args.toList ds p := hA0
  rw [Try.params4] at hA hval
  obtain ⟨v0, vs0, d0, ds0, p0, q0, hargs, rfl, rfl, h0, r0⟩ := trodAll_cons hA
  obtain ⟨rfl, rfl, rfl⟩ := trodAll_nil r0
  obtain rfl : args = #[v0] := by cases args; simp_all
  obtain ⟨rfl, rfl⟩ := trodVars_none hV
  obtain ⟨a0, len0, cap0, rfl⟩ := okWide_slice Try.underlying25 (hval 0 25 v0 rfl rfl)
  have k0 := h0
  have lt0 : ∀ x ∈ p0, x.block < W.heap.size := by obtain ⟨m, hm⟩ := k0; exact DataW.trod_lt m _ _ _ hm
  obtain ⟨hst, hln⟩ := steps_of h0
  clear hA0 hval0
  refine (placed_any a0 len0 cap0 W hln hst).mono fun e W' ⟨he, hk⟩ => ?_
  subst he
  have bel : Below W.heap.size W W' := hk.below _ (Nat.le_refl _) (fun _ h => h.elim)
  exact ⟨_, rfl, _, _, _, [], _, [], hW', trodAll_mk1 (shut_bool Try.underlying4 _), trodAll_cons_mk (Below.trod laidOut (by kernel_rfl) (of_decide_eq_true (by kernel_rfl)) k0 bel lt0) trodAll_mk0, rfl, bel.frame _, fun h => by cases h⟩

theorem placed_over : Rows.placedRow.holds Try.pinned (OpenSpec.ofChange Rows.placedSpec) :=
  OpenClaim.holds_of_wide 4 Try.f4 rfl rfl rfl rfl rfl rfl rfl ⟨rfl, rfl, rfl, rfl, rfl⟩ rfl rfl rfl rfl rfl (by kernel_rfl) Try.func4 (by kernel_rfl)
    (of_decide_eq_true (by kernel_rfl)) (by unfold Func.isWrapper; first | (rw [if_pos (by decide +kernel)]; kernel_rfl) | (rw [if_neg (by decide +kernel)]; exact ⟨rfl, rfl⟩))
    (fun os started H enc _ => placed_lifted os started H enc)

/-- THE STATEMENT. -/
theorem placed_holds : Rows.PlacedSaid := placed_over

#print axioms placed_holds
end Go.Proofs.Ytgijpjompclonaa
