import Derived.Test.YtgfafbanahiigaaGreatRH
set_option linter.unusedVariables false
set_option linter.unusedSimpArgs false
namespace Go.Chorus
def leadB (ops : Array Oper) (s : Nat) : Bool := (List.range s).all fun i => (List.range (s + 1)).any fun j => decide (i < j) && ((ops[j]?).map fun o => o.after.any fun e => Region.binds .any e && decide (e.on = i)).getD false
theorem lead_all {ops : Array Oper} {s : Nat} (h : leadB ops s = true) {listed : Array Bool} (closed : ∀ (i : Nat) (o : Oper), ops[i]? = some o → listed.getD i false = true → ∀ e ∈ o.after, Region.binds .any e = true → listed.getD e.on false = true) (hs : listed.getD s false = true) :
  ∀ n i, s - i ≤ n → i ≤ s → listed.getD i false = true := by
 intro n
 induction n with
 | zero => intro i h1 h2; rw [show i = s by omega]; exact hs
 | succ n ih =>
  intro i h1 h2
  rcases Nat.lt_or_ge i s with h3 | h3
  ·have a1 := List.all_eq_true.1 h i (List.mem_range.2 h3)
   obtain ⟨j, hj, a2⟩ := List.any_eq_true.1 a1
   have hj2 := List.mem_range.1 hj
   simp only [Bool.and_eq_true, decide_eq_true_eq] at a2
   obtain ⟨a3, a4⟩ := a2
   cases ho : ops[j]? with
   | none => rw [ho] at a4; simp at a4
   | some o =>
    rw [ho] at a4
    simp only [Option.map_some, Option.getD_some, Array.any_eq_true'] at a4
    obtain ⟨e, he, a5⟩ := a4
    simp only [Bool.and_eq_true, decide_eq_true_eq] at a5
    have := closed j o ho (ih j (by omega) (by omega)) e he a5.1
    rw [a5.2] at this
    exact this
  ·rw [show i = s by omega]; exact hs
theorem lead_un {ops : Array Oper} {s : Nat} (h : leadB ops s = true) {listed : Array Bool} (closed : ∀ (i : Nat) (o : Oper), ops[i]? = some o → listed.getD i false = true → ∀ e ∈ o.after, Region.binds .any e = true → listed.getD e.on false = true) {i : Nat} (hi : i < s) (hu : listed.getD i false = false) : listed.getD s false = false := by
 cases hs : listed.getD s false with
 | false => rfl
 | true =>
  have := lead_all h closed hs s i (by omega) (by omega)
  rw [hu] at this; cases this
theorem wp_region_tailQ {P : Program} {Q : Exit → Act → World → Prop} {id : Nat} {a0 : Act} {w : World} {l : List Oper} (hm : P.follows .mixedOrders = true) (n1 n : Nat) (hn : a0.tmps.size = n) (hB : tailRegion l n1 n = true) (S : Nat → Prop) (s : Nat) (hL : leadB l.toArray s = true) (hns : n1 = s + 1) (V : Nat → Value → World → Prop)
  (hV : ∀ i v w w', V i v w → Kept (fun _ => False) w w' → V i v w') (hVS : ∀ i v w w', i ≠ s → V i v w → Kept S w w' → V i v w')
  (hop : ∀ (i : Nat) (o : Oper), i < n1 → i ≠ s → l[i]? = some o → ∀ a w1, Kept (fun _ => False) w.drew w1 → UptoT l.toArray V a0 i o a w1 → o.wp P a w1 (fun a' w' => ∃ v, a' = a.put o.dst v ∧ V i v w' ∧ Kept (fun _ => False) w1 w') Q)
  (hsp : ∀ (o : Oper), s < n1 → l[s]? = some o → ∀ a w1, Kept (fun _ => False) w.drew w1 → UptoT l.toArray V a0 s o a w1 → o.wp P a w1 (fun a' w' => ∃ v, a' = a.put o.dst v ∧ V s v w' ∧ Kept S w1 w') Q)
  (hend : ∀ (vals : Nat → Value) w1, Kept S w.drew w1 → (∀ i, i < n1 → V i (vals i) w1) → wpList P l.toArray Q (l.drop n1) (putAll a0 (l.take n1) 0 vals) w1) :
  (Code.region id l.toArray true).wp P Q a0 w := by
 simp only [tailRegion, Bool.and_eq_true, List.all_eq_true, decide_eq_true_eq] at hB
 obtain ⟨⟨⟨⟨hB1, hB2⟩, hB3⟩, hB4⟩, hB5⟩ := hB
 have hget : ∀ (i : Nat), l.toArray[i]? = l[i]? := fun i => by simp
 have hsize : l.toArray.size = l.length := by simp
 have htk : ∀ (i : Nat), i < n1 → (l.take n1)[i]? = l[i]? := fun i hi => by rw [List.getElem?_take, if_pos hi]
 have hdst : ∀ (i : Nat) (o : Oper), i < n1 → l.toArray[i]? = some o → o.guard = none ∧ ∃ d, o.dst = some d ∧ d < a0.tmps.size := by
  intro i o hi ho
  rw [hget, ← htk i hi] at ho
  have h1 := hB1 o (List.mem_of_getElem? ho)
  refine ⟨by simpa using h1.1, ?_⟩
  cases hd : o.dst with
  | none => rw [hd] at h1; simp at h1
  | some d => rw [hd] at h1; exact ⟨d, rfl, by rw [hn]; simpa using h1.2⟩
 have hpw : (l.take n1).Pairwise fun o u => o.dst ≠ u.dst := by
  rw [List.Nodup, List.pairwise_map] at hB2; exact hB2
 have hne : ∀ (i j : Nat) (o u : Oper), i < n1 → j < n1 → l.toArray[i]? = some o → l.toArray[j]? = some u → i ≠ j → o.dst ≠ u.dst := by
  intro i j o u hin hjn ho hu hij
  rw [hget, ← htk i hin] at ho
  rw [hget, ← htk j hjn] at hu
  obtain ⟨hi, rfl⟩ := List.getElem?_eq_some_iff.1 ho
  obtain ⟨hj, rfl⟩ := List.getElem?_eq_some_iff.1 hu
  rcases Nat.lt_or_ge i j with h1 | h1
  ·exact List.pairwise_iff_getElem.1 hpw i j hi hj h1
  ·exact (List.pairwise_iff_getElem.1 hpw j i hj hi (by omega)).symm
 have hall : ∀ listed a w1, ByT l.toArray n1 s S V a0 w.drew listed a w1 → (∀ i, i < n1 → listed.getD i false = true) → wpList P l.toArray Q (l.drop n1) a w1 := by
  intro listed a w1 inv hl
  obtain ⟨vals, hvals⟩ : ∃ vals : Nat → Value, ∀ i (o : Oper) d, i < n1 → l[i]? = some o → o.dst = some d → a.tmps[d]? = some (vals i) ∧ V i (vals i) w1 := by
   refine ⟨fun i => match l[i]? with | some o => (match o.dst with | some d => (a.tmps[d]?).getD undef | none => undef) | none => undef, ?_⟩
   intro i o d hin hi hd
   obtain ⟨v, h1, h2⟩ := inv.done i o d (by rw [hget]; exact hi) (hl i hin) hd
   simp only [hi, hd, h1, Option.getD_some]
   exact ⟨trivial, h2⟩
  have hfr : a = putAll a0 (l.take n1) 0 vals := by
   have h1 := putAll_size (l.take n1) a0 0 vals
   have ht : a.tmps = (putAll a0 (l.take n1) 0 vals).tmps := by
    apply Array.ext_getElem?
    intro d
    by_cases hx : ∃ (i : Nat) (o : Oper), i < n1 ∧ l[i]? = some o ∧ o.dst = some d
    ·obtain ⟨i, o, hin, hi, hd⟩ := hx
     obtain ⟨_, d', hd', hlt⟩ := hdst i o hin (by rw [hget]; exact hi)
     rw [hd] at hd'; cases hd'
     rw [putAll_done (l.take n1) a0 0 vals hpw i o d (by rw [htk i hin]; exact hi) hd hlt, (hvals i o d hin hi hd).1, Nat.zero_add]
    ·rw [putAll_rest (l.take n1) a0 0 vals d (fun o ho hd => by
      obtain ⟨i, hi, rfl⟩ := List.getElem_of_mem ho
      have hi1 : i < n1 := by simp at hi; omega
      have hi2 : i < l.length := by simp at hi; omega
      exact hx ⟨i, l[i], hi1, List.getElem?_eq_getElem hi2, by rw [← hd]; simp⟩)]
     refine inv.rest d (fun i o ho hli hd => ?_)
     by_cases hin : i < n1
     ·exact hx ⟨i, o, hin, by rw [← hget]; exact ho, hd⟩
     ·rw [inv.head i (by omega)] at hli; cases hli
   have hd2 : a.defers = (putAll a0 (l.take n1) 0 vals).defers := by rw [inv.defers, h1.2]
   cases a
   simp only at ht hd2
   rw [ht, hd2]
  rw [hfr]
  refine hend vals w1 inv.kept (fun i hi => ?_)
  have hil : i < l.length := by omega
  obtain ⟨_, d, hd, _⟩ := hdst i l[i] hi (by rw [hget]; exact List.getElem?_eq_getElem hil)
  exact (hvals i l[i] d hi (List.getElem?_eq_getElem hil) hd).2
 refine wp_region_inv hm (fun listed a w1 => ByT l.toArray n1 s S V a0 w.drew listed a w1 ∨ ∃ k, n1 ≤ k ∧ listed.size = l.length ∧ (∀ j, listed.getD j false = decide (j < k ∧ j < l.length)) ∧ wpList P l.toArray Q (l.drop k) a w1) ?_ ?_ ?_
 ·intro listed a w1 inv hr
  rcases inv with inv | ⟨k, hk, hsz, hls, hw⟩
  ·have hl := all_of_ready hB3 listed inv.count hr
   have hn1 : n1 = l.length := by
    rcases Nat.lt_or_ge n1 l.length with h | h
    ·have := hl n1 (by rw [hsize]; exact h)
     rw [inv.head n1 (Nat.le_refl _)] at this; cases this
    ·omega
   have := hall listed a w1 inv (fun i hi => hl i (by rw [hsize]; omega))
   rw [hn1, List.drop_length] at this
   exact this
  ·have hl := all_of_ready hB3 listed (by rw [hsz, hsize]) hr
   rcases Nat.lt_or_ge k l.length with h | h
   ·have := hl k (by rw [hsize]; exact h)
    rw [hls k] at this
    simp at this
   ·rw [List.drop_eq_nil_of_le h] at hw
    exact hw
 ·intro listed a w1 i inv hi
  obtain ⟨hun, o, ho, hdeps⟩ := mem_ready.1 hi
  have hil : i < l.length := by have := (Array.getElem?_eq_some_iff.1 ho).1; rwa [hsize] at this
  have hoi : l[i]? = some o := by rw [← hget]; exact ho
  have tail : ∀ k, n1 ≤ k → listed.size = l.length → (∀ j, listed.getD j false = decide (j < k ∧ j < l.length)) → wpList P l.toArray Q (l.drop k) a w1 → i = k →
    wpOp P l.toArray Q i (fun a w1 => ByT l.toArray n1 s S V a0 w.drew (listed.setIfInBounds i true) a w1 ∨ ∃ k, n1 ≤ k ∧ (listed.setIfInBounds i true).size = l.length ∧ (∀ j, (listed.setIfInBounds i true).getD j false = decide (j < k ∧ j < l.length)) ∧ wpList P l.toArray Q (l.drop k) a w1) a w1 := by
   intro k hk hsz hls hw hik
   subst hik
   rw [List.drop_eq_getElem_cons hil, (List.getElem?_eq_some_iff.1 hoi).2] at hw
   have hw2 : wpOp P l.toArray Q i (wpList P l.toArray Q (l.drop (i + 1))) a w1 := by
    unfold wpOp
    simp only [ho]
    exact hw
   refine wpOp_mono (fun a' w' h' => Or.inr ⟨i + 1, by omega, by simp [hsz], fun j => ?_, h'⟩) hw2
   rw [getD_set _ _ _ (by rw [hsz]; exact hil), hls j]
   by_cases hij : i = j
   ·subst hij; simp [hil]
   ·rw [if_neg hij]
    congr 1
    apply propext
    omega
  rcases inv with inv | ⟨k, hk, hsz, hls, hw⟩
  ·have hils : i < listed.size := by rw [inv.count, hsize]; exact hil
   have hunf : listed.getD i false = false := by
    simp only [Array.getD, hils, dif_pos] at hun ⊢; exact hun
   by_cases hin : i < n1
   ·obtain ⟨hg, d, hdo, hdl⟩ := hdst i o hin ho
    have hup : UptoT l.toArray V a0 i o a w1 := by
     refine ⟨inv.size, inv.defers, fun e he hb oj dj hj hdj => inv.done e.on oj dj hj (hdeps e he hb) hdj, fun d' hd' => inv.rest d' (fun j oj hj hlj hdj => ?_)⟩
     rcases hd' j oj hj hdj with rfl | ⟨e, he, hb, hei⟩
     ·rw [hunf] at hlj; cases hlj
     ·have := inv.closed j oj hj hlj e he hb
      rw [hei, hunf] at this; cases this
    unfold wpOp
    simp only [ho]
    have hw : Region.wanted o (yielded l.toArray a.tmps) = true := by simp [Region.wanted, hg]
    rw [if_pos hw]
    left
    have key : ∀ (a' : Act) (w' : World), (∃ v, a' = a.put o.dst v ∧ V i v w' ∧ Kept S w1 w' ∧ (i ≠ s → Kept (fun _ => False) w1 w')) → ByT l.toArray n1 s S V a0 w.drew (listed.setIfInBounds i true) a' w' := by
     rintro a' w' ⟨v, rfl, hv, hk, hkq⟩
     rw [hdo]
     refine ⟨by simp [inv.count], inv.kept.trans' hk, ?_, by simp [Act.put, inv.size], inv.defers, ?_, ?_, ?_, ?_⟩
     ·intro hls
      rw [getD_set _ _ _ hils] at hls
      by_cases his : i = s
      ·rw [if_pos his] at hls; cases hls
      ·rw [if_neg his] at hls
       exact (inv.quiet hls).trans' (hkq his)
     ·intro j oj dj hj hlj hdj
      rw [getD_set _ _ _ hils] at hlj
      by_cases hij : i = j
      ·subst hij
       rw [ho] at hj
       cases hj
       rw [hdo] at hdj
       cases hdj
       exact ⟨v, by rw [put_get, if_pos rfl, if_pos (by rw [inv.size]; exact hdl)], hv⟩
      ·rw [if_neg hij] at hlj
       obtain ⟨u, hu, hvu⟩ := inv.done j oj dj hj hlj hdj
       have hjn : j < n1 := by
        rcases Nat.lt_or_ge j n1 with h | h
        ·exact h
        ·rw [inv.head j h] at hlj; cases hlj
       have hvu' : V j u w' := by
        by_cases his : i = s
        ·exact hVS j u w1 w' (fun e => hij (by rw [his, e])) hvu hk
        ·exact hV j u w1 w' hvu (hkq his)
       refine ⟨u, ?_, hvu'⟩
       rw [put_get, if_neg (fun e => hne i j o oj hin hjn ho hj hij (by rw [hdo, hdj, e]))]
       exact hu
     ·intro d' hd'
      have hdd : d ≠ d' := fun e => hd' i o ho (by rw [getD_set _ _ _ hils, if_pos rfl]) (by rw [hdo, e])
      rw [put_get, if_neg hdd]
      refine inv.rest d' (fun j oj hj hlj => hd' j oj hj ?_)
      rw [getD_set _ _ _ hils]
      split
      ·rfl
      ·exact hlj
     ·intro j oj hj hlj e he hb
      rw [getD_set _ _ _ hils] at hlj ⊢
      by_cases hij : i = j
      ·subst hij
       rw [ho] at hj
       cases hj
       have := hdeps e he hb
       split
       ·rfl
       ·exact this
      ·rw [if_neg hij] at hlj
       have := inv.closed j oj hj hlj e he hb
       split
       ·rfl
       ·exact this
     ·intro j hj
      rw [getD_set _ _ _ hils, if_neg (by omega)]
      exact inv.head j hj
    by_cases his : i = s
    ·subst his
     refine Oper.wp_mono ?_ (hsp o hin hoi a w1 (inv.quiet hunf) hup)
     rintro a' w' ⟨v, h1, h2, h3⟩
     exact Or.inl (key a' w' ⟨v, h1, h2, h3, fun h => absurd rfl h⟩)
    ·refine Oper.wp_mono ?_ (hop i o hin his hoi a w1 (inv.quiet (lead_un hL inv.closed (by have := his; omega) hunf)) hup)
     rintro a' w' ⟨v, h1, h2, h3⟩
     exact Or.inl (key a' w' ⟨v, h1, h2, h3.mono (fun _ _ h => h.elim), fun _ => h3⟩)
   ·have hdone : ∀ j, j < i → listed.getD j false = true := fun j hj => by
     obtain ⟨e, he, hb, hej⟩ := tail_dep hB4 (by omega) (by rw [hsize]; exact hil) ho j hj
     rw [← hej]
     exact hdeps e he hb
    have hi1 : i = n1 := by
     rcases Nat.lt_or_ge n1 i with h | h
     ·have := hdone n1 h
      rw [inv.head n1 (Nat.le_refl _)] at this; cases this
     ·omega
    refine tail n1 (Nat.le_refl _) (by rw [inv.count, hsize]) (fun j => ?_) (hall listed a w1 inv (fun j hj => hdone j (by omega))) hi1
    by_cases hj : j < n1
    ·rw [hdone j (by omega)]; simp [hj]; omega
    ·rw [inv.head j (by omega)]; simp; omega
  ·have hils : i < listed.size := by rw [hsz]; exact hil
   have hunf : listed.getD i false = false := by
    simp only [Array.getD, hils, dif_pos] at hun ⊢; exact hun
   have hki : k ≤ i := by
    rw [hls i] at hunf
    simp at hunf
    by_cases h : i < k
    ·have := hunf h; omega
    ·omega
   have hik : i = k := by
    rcases Nat.lt_or_ge k i with h | h
    ·obtain ⟨e, he, hb, hej⟩ := tail_dep hB4 (by omega) (by rw [hsize]; exact hil) ho k h
     have := hdeps e he hb
     rw [hej, hls k] at this
     simp at this
    ·omega
   exact tail k hk hsz hls hw hik
 ·left
  refine ⟨by simp, Kept.refl _ _, fun _ => Kept.refl _ _, rfl, rfl, ?_, fun d _ => rfl, ?_, ?_⟩
  ·intro i o d _ hl _
   exfalso
   simp only [Array.getD_eq_getD_getElem?, Array.getElem?_replicate] at hl
   split at hl <;> simp at hl
  ·intro i o _ hl
   exfalso
   simp only [Array.getD_eq_getD_getElem?, Array.getElem?_replicate] at hl
   split at hl <;> simp at hl
  ·intro i _
   simp only [Array.getD_eq_getD_getElem?, Array.getElem?_replicate]
   split <;> simp
end Go.Chorus
