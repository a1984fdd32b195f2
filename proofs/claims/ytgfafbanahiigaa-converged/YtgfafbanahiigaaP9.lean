/- THE STATEMENT OF Converged: what the walk gives, lifted to the row. -/
import Derived.Test.YtgfafbanahiigaaP0
import Derived.Test.YtgfafbanahiigaaV20
import Derived.Test.YtgfafbanahiigaaV37
set_option linter.unusedVariables false
namespace Go.Proofs.Ytgfafbanahiigaa
open Go.ChangeShapes Go.WideShapes Go.ChangeAt Go.RowKit Go.Chorus Go.Deep

theorem step_said (B : Nat → Prop) (w : World) (bg bl lc : Nat) (bp : Nat → Nat) (ss : Nat → Pr) (Fs : Nat → Nat → Prop) (pv : Value) (mds : List Mk) (count t : Nat) (H : List Ope) (G : GSt B w bg bl lc bp ss Fs pv mds count) (O : GOk t H ss count) (hH : (mds.map Mk.o).reverse = H) (ht : t ≤ 300) (hB : ∀ b, w.heap.size ≤ b → B b)
      (kind peer at_ which : Int) (hki : i64ok kind) (hpe : i64ok peer) (hat : i64ok at_) (hwh : i64ok which) :
      Calls Try.prog 19 #[.pointer (some ⟨bg, 0, none⟩), .agg #[.int .i64 kind, .int .i64 peer, .int .i64 at_, .int .i64 which]] w fun e' w' => e' = .returned (.bool true) ∧ Kept B w w' ∧ ∃ (ss' : Nat → Pr) (Fs' : Nat → Nat → Prop) (pv' : Value) (mds' : List Mk) (count' : Nat), GSt B w' bg bl lc bp ss' Fs' pv' mds' count' ∧ GOk (t + 1) ((mds'.map Mk.o).reverse) ss' count' :=
  (gstep_any B w bg bl lc bp ss Fs pv mds count t H G O hH ht hB kind peer at_ which hki hpe hat hwh).mono fun e' w' ⟨he, hk, hS⟩ => by
    refine ⟨he, hk, ?_⟩
    rcases hS with ⟨_, o, Fs', pv', kb, kc, count', _, _, _, G', O'⟩ | ⟨_, i, m, Fs', pv', _, _, G', O'⟩
    · refine ⟨_, Fs', pv', _, count', G', ?_⟩
      rw [List.map_append, List.reverse_append, hH]
      exact O'
    · refine ⟨_, Fs', pv', mds, count, G', ?_⟩
      rw [hH]
      exact O'

set_option maxRecDepth 100000 in
theorem converged_lifted (os : Os) (started : os.Started) (H : Type) (enc : TypeId × Value → H) :
    ReturnsInHanded {} Try.checked os 10 .any (Rows.convergedSpec.pre6 enc Try.prog Try.f10 Rows.convergedRow.domain false) (Rows.convergedSpec.post enc Try.prog Try.f10 false true false false) := by
  refine returnsInHanded_of_change (C := Try.checked) own started (by kernel_rfl) Try.func10
    (ChangeSpec.witness6 (enc := enc) (C := Try.checked) false ⟨#[], #[.slice none 0 0], []⟩ 8 (by kernel_rfl) (by kernel_rfl) (by kernel_rfl) (by kernel_rfl)) ?_
  intro W base args ds gs before hval0 hW hcnd _
  have hval : ∀ (j : Nat) t v, Try.f10.params[j]? = some t → args[j]? = some v → Value.okWide Try.prog W .any base t v := hval0
  have hW' := hW
  obtain ⟨p, q, hA0, hV, rfl, hfz, hnd⟩ := hW
  have hA : DataW.TrodAll enc Try.prog W 0 (fun _ => true) true Try.f10.params.toList args.toList ds p := hA0
  rw [Try.params10] at hA hval
  obtain ⟨v0, vs0, d0, ds0, p0, q0, hargs, rfl, rfl, h0, r0⟩ := trodAll_cons hA
  obtain ⟨rfl, rfl, rfl⟩ := trodAll_nil r0
  obtain rfl : args = #[v0] := by cases args; simp_all
  obtain ⟨rfl, rfl⟩ := trodVars_none hV
  obtain ⟨a0, len0, cap0, rfl⟩ := okWide_slice Try.underlying22 (hval 0 22 v0 rfl rfl)
  have k0 := h0
  have lt0 : ∀ x ∈ p0, x.block < W.heap.size := by obtain ⟨m, hm⟩ := k0; exact DataW.trod_lt m _ _ _ hm
  obtain ⟨hst, hln⟩ := steps_of h0
  clear hA0 hval0
  refine (converged_any a0 len0 cap0 W hln hst step_said).mono fun e W' ⟨he, hk⟩ => ?_
  subst he
  have bel : Below W.heap.size W W' := hk.below _ (Nat.le_refl _) (fun _ h => h.elim)
  exact ⟨_, rfl, _, _, _, [], _, [], hW', trodAll_mk1 (shut_bool Try.underlying4 _), trodAll_cons_mk (Below.trod laidOut (by kernel_rfl) (of_decide_eq_true (by kernel_rfl)) k0 bel lt0) trodAll_mk0, rfl, bel.frame _, fun h => by cases h⟩

theorem converged_over : Rows.convergedRow.holds Try.pinned (OpenSpec.ofChange Rows.convergedSpec) :=
  OpenClaim.holds_of_wide 10 Try.f10 rfl rfl rfl rfl rfl rfl rfl ⟨rfl, rfl, rfl, rfl, rfl⟩ rfl rfl rfl rfl rfl (by kernel_rfl) Try.func10 (by kernel_rfl)
    (of_decide_eq_true (by kernel_rfl)) (by unfold Func.isWrapper; first | (rw [if_pos (by decide +kernel)]; kernel_rfl) | (rw [if_neg (by decide +kernel)]; exact ⟨rfl, rfl⟩))
    (fun os started H enc _ => converged_lifted os started H enc)

/-- THE STATEMENT. -/
theorem converged_holds : Rows.ConvergedSaid := converged_over

#print axioms converged_holds
end Go.Proofs.Ytgfafbanahiigaa
