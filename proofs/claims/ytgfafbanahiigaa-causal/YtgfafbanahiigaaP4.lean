/- THE STATEMENT OF Causal: what the walk gives, lifted to the row. -/
import Derived.Test.YtgfafbanahiigaaP0
import Derived.Test.YtgfafbanahiigaaV20
import Derived.Test.YtgfafbanahiigaaV25
set_option linter.unusedVariables false
set_option linter.unusedSimpArgs false
namespace Go.Proofs.Ytgfafbanahiigaa
open Go.ChangeShapes Go.WideShapes Go.ChangeAt Go.RowKit Go.Chorus Go.Deep

theorem caused_of {B : Nat → Prop} {w' : World} {bg bl lc : Nat} {bp : Nat → Nat} {ss : Nat → Pr} {Fs : Nat → Nat → Prop} {mds : List Mk} {count t : Nat} {H : List Ope} {k : Nat} {kind which : Int} (hk : k < 3) (O : GOk t H ss count) (hH : (mds.map Mk.o).reverse = H) (h : Stepped B w' bg bl lc bp ss mds count t H k kind which) :
    ∃ ss' Fs' pv' mds' count', Caused B w' bg bl lc bp ss k t kind which ss' Fs' pv' mds' count' := by
  rcases h with ⟨hw, o, Fs', pv', kb, kc, count', h1, h2, h3, G', O'⟩ | ⟨_, i, m, Fs', pv', hi, hm, G', O'⟩
  · refine ⟨_, Fs', pv', _, count', G', ?_, fun hn i m hi hm hnum hse => ?_⟩
    · rw [List.map_append, List.reverse_append, hH]
      exact O'
    · have hl : mds.length = 0 := by
        rcases hw with hw | hw
        · exact absurd hw hn
        · exact hw
      obtain rfl := List.length_eq_zero_iff.1 hl
      have hm' : m.o = o := by
        simp only [List.nil_append] at hm
        cases i with
        | zero => simp at hm; rw [← hm]
        | succ i => simp at hm
      have e1 := (O'.ok k hk).1.own
      have e2 := (O.ok k hk).1.own
      have m1 := O'.me k hk
      have m2 := O.me k hk
      rw [upd_same] at e1 m1 ⊢
      rw [m1] at e1
      rw [m2] at e2
      rw [hm', h1, e1]
      have hc : Go.Chorus.cnt (o :: H) k = Go.Chorus.cnt H k + 1 := by
        show (if o.peer = k then 1 else 0) + Go.Chorus.cnt H k = _
        rw [if_pos h1]; omega
      rw [hc, ← e2]
      omega
  · refine ⟨_, Fs', pv', mds, count, G', ?_, fun hn i' m' hi' hm' hnum hse => ?_⟩
    · rw [hH]; exact O'
    · obtain rfl : i' = i := by rw [hi] at hi'; omega
      rw [hm] at hm'
      cases hm'
      have hmH : m.o ∈ H := by rw [← hH]; simp; exact ⟨m, List.mem_of_getElem? hm, rfl⟩
      rw [upd_same]
      refine (O.hear hk hmH).2.came ?_
      unfold Pr.can
      rw [(O.fit k hk).len]
      simp only [Bool.and_eq_true, decide_eq_true_eq, List.all_eq_true, List.mem_range]
      exact ⟨hnum, hse⟩

theorem causal_step (B : Nat → Prop) (w : World) (bg bl lc : Nat) (bp : Nat → Nat) (ss : Nat → Pr) (Fs : Nat → Nat → Prop) (pv : Value) (mds : List Mk) (count t : Nat) (H : List Ope) (G : GSt B w bg bl lc bp ss Fs pv mds count) (O : GOk t H ss count) (hH : (mds.map Mk.o).reverse = H) (ht : t ≤ 300) (hB : ∀ b, w.heap.size ≤ b → B b)
      (kind peer at_ which : Int) (hki : i64ok kind) (hpe : i64ok peer) (hat : i64ok at_) (hwh : i64ok which) :
      Calls Try.prog 19 #[.pointer (some ⟨bg, 0, none⟩), .agg #[.int .i64 kind, .int .i64 peer, .int .i64 at_, .int .i64 which]] w fun e' w' => e' = .returned (.bool true) ∧ Kept B w w' ∧ ∃ (ss' : Nat → Pr) (Fs' : Nat → Nat → Prop) (pv' : Value) (mds' : List Mk) (count' : Nat), Caused B w' bg bl lc bp ss (pickN peer 3).toNat t kind which ss' Fs' pv' mds' count' :=
  (gstep_any B w bg bl lc bp ss Fs pv mds count t H G O hH ht hB kind peer at_ which hki hpe hat hwh).mono fun e' w' ⟨he, hk, hS⟩ =>
    ⟨he, hk, caused_of (Fs := Fs) (by have := pickN_lo peer 3 (by decide); have := pickN_hi peer 3 (by decide); omega) O hH hS⟩

set_option maxRecDepth 100000 in
theorem causal_lifted (os : Os) (started : os.Started) (H : Type) (enc : TypeId × Value → H) :
    ReturnsInHanded {} Try.checked os 7 .any (Rows.causalSpec.pre6 enc Try.prog Try.f7 Rows.causalRow.domain false) (Rows.causalSpec.post enc Try.prog Try.f7 false true false false) := by
  refine returnsInHanded_of_change (C := Try.checked) own started (by kernel_rfl) Try.func7
    (ChangeSpec.witness6 (enc := enc) (C := Try.checked) false ⟨#[], #[.slice none 0 0], []⟩ 8 (by kernel_rfl) (by kernel_rfl) (by kernel_rfl) (by kernel_rfl)) ?_
  intro W base args ds gs before hval0 hW hcnd _
  have hval : ∀ (j : Nat) t v, Try.f7.params[j]? = some t → args[j]? = some v → Value.okWide Try.prog W .any base t v := hval0
  have hW' := hW
  obtain ⟨p, q, hA0, hV, rfl, hfz, hnd⟩ := hW
  have hA : DataW.TrodAll enc Try.prog W 0 (fun _ => true) true Try.f7.params.toList args.toList ds p := hA0
  rw [Try.params7] at hA hval
  obtain ⟨v0, vs0, d0, ds0, p0, q0, hargs, rfl, rfl, h0, r0⟩ := trodAll_cons hA
  obtain ⟨rfl, rfl, rfl⟩ := trodAll_nil r0
  obtain rfl : args = #[v0] := by cases args; simp_all
  obtain ⟨rfl, rfl⟩ := trodVars_none hV
  obtain ⟨a0, len0, cap0, rfl⟩ := okWide_slice Try.underlying22 (hval 0 22 v0 rfl rfl)
  have k0 := h0
  have lt0 : ∀ x ∈ p0, x.block < W.heap.size := by obtain ⟨m, hm⟩ := k0; exact DataW.trod_lt m _ _ _ hm
  obtain ⟨hst, hln⟩ := steps_of h0
  clear hA0 hval0
  refine (causal_any a0 len0 cap0 W hln hst causal_step).mono fun e W' ⟨he, hk⟩ => ?_
  subst he
  have bel : Below W.heap.size W W' := hk.below _ (Nat.le_refl _) (fun _ h => h.elim)
  exact ⟨_, rfl, _, _, _, [], _, [], hW', trodAll_mk1 (shut_bool Try.underlying4 _), trodAll_cons_mk (Below.trod laidOut (by kernel_rfl) (of_decide_eq_true (by kernel_rfl)) k0 bel lt0) trodAll_mk0, rfl, bel.frame _, fun h => by cases h⟩

theorem causal_over : Rows.causalRow.holds Try.pinned (OpenSpec.ofChange Rows.causalSpec) :=
  OpenClaim.holds_of_wide 7 Try.f7 rfl rfl rfl rfl rfl rfl rfl ⟨rfl, rfl, rfl, rfl, rfl⟩ rfl rfl rfl rfl rfl (by kernel_rfl) Try.func7 (by kernel_rfl)
    (of_decide_eq_true (by kernel_rfl)) (by unfold Func.isWrapper; first | (rw [if_pos (by decide +kernel)]; kernel_rfl) | (rw [if_neg (by decide +kernel)]; exact ⟨rfl, rfl⟩))
    (fun os started H enc _ => causal_lifted os started H enc)

/-- THE STATEMENT. -/
theorem causal_holds : Rows.CausalSaid := causal_over

#print axioms causal_holds
end Go.Proofs.Ytgfafbanahiigaa
