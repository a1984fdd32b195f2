/- The plain mathematics of rows: the row is the walk of a tree, its order one and the same wherever it is; of no program. -/
import Derived.Test.YtgfafbanahiigaaSpec
set_option linter.unusedVariables false
set_option linter.unusedSimpArgs false
namespace Go.Chorus

/-- A name: clock, peer. -/
abbrev Nm := Nat × Nat

def nlt (a b : Nm) : Prop := a.1 < b.1 ∨ (a.1 = b.1 ∧ a.2 < b.2)

instance (a b : Nm) : Decidable (nlt a b) := by unfold nlt; infer_instance

theorem nlt_irrefl (a : Nm) : ¬ nlt a a := by unfold nlt; omega
theorem nlt_trans {a b c : Nm} (h : nlt a b) (k : nlt b c) : nlt a c := by unfold nlt at *; omega
theorem nlt_total (a b : Nm) : nlt a b ∨ a = b ∨ nlt b a := by
  obtain ⟨a1, a2⟩ := a
  obtain ⟨b1, b2⟩ := b
  simp only [nlt, Prod.mk.injEq]; omega
theorem nlt_asymm {a b : Nm} (h : nlt a b) : ¬ nlt b a := by unfold nlt at *; omega

/-- A path: the names from the row's beginning down to an element; which of two comes first. -/
def pbefore : List Nm → List Nm → Prop
  | _, [] => False
  | [], _ :: _ => True
  | a :: p, b :: q => nlt b a ∨ (a = b ∧ pbefore p q)

theorem pbefore_irrefl (p : List Nm) : ¬ pbefore p p := by
  induction p with
  | nil => simp [pbefore]
  | cons a p ih => simp only [pbefore, true_and]; rintro (h | h); exact nlt_irrefl _ h; exact ih h

theorem pbefore_trans {p q r : List Nm} (h : pbefore p q) (k : pbefore q r) : pbefore p r := by
  induction p generalizing q r with
  | nil =>
    cases q with
    | nil => simp [pbefore] at h
    | cons b q =>
      cases r with
      | nil => simp [pbefore] at k
      | cons c r => simp [pbefore]
  | cons a p ih =>
    cases q with
    | nil => simp [pbefore] at h
    | cons b q =>
      cases r with
      | nil => simp [pbefore] at k
      | cons c r =>
        simp only [pbefore] at *
        rcases h with h | ⟨rfl, h⟩
        · rcases k with k | ⟨rfl, k⟩
          · exact Or.inl (nlt_trans k h)
          · exact Or.inl h
        · rcases k with k | ⟨rfl, k⟩
          · exact Or.inl k
          · exact Or.inr ⟨rfl, ih h k⟩

theorem pbefore_total (p q : List Nm) : pbefore p q ∨ p = q ∨ pbefore q p := by
  induction p generalizing q with
  | nil => cases q <;> simp [pbefore]
  | cons a p ih =>
    cases q with
    | nil => simp [pbefore]
    | cons b q =>
      simp only [pbefore]
      rcases nlt_total a b with h | rfl | h
      · exact Or.inr (Or.inr (Or.inl h))
      · rcases ih q with h | rfl | h
        · exact Or.inl (Or.inr ⟨rfl, h⟩)
        · exact Or.inr (Or.inl rfl)
        · exact Or.inr (Or.inr (Or.inr ⟨rfl, h⟩))
      · exact Or.inl (Or.inl h)

theorem pbefore_append {p q : List Nm} (h : pbefore p q) (s : List Nm) : pbefore p (q ++ s) := by
  induction p generalizing q with
  | nil =>
    cases q with
    | nil => simp [pbefore] at h
    | cons b q => simp [pbefore]
  | cons a p ih =>
    cases q with
    | nil => simp [pbefore] at h
    | cons b q =>
      simp only [pbefore, List.cons_append] at *
      rcases h with h | ⟨e, h⟩
      · exact Or.inl h
      · exact Or.inr ⟨e, ih h⟩

theorem pbefore_prefix (p : List Nm) (n : Nm) (s : List Nm) : pbefore p (p ++ n :: s) := by
  induction p with
  | nil => simp [pbefore]
  | cons a p ih => simp only [List.cons_append, pbefore, true_and]; exact Or.inr ih

/-- What stands behind p and ahead of p's new child n: below a greater child of p. -/
theorem between {p t : List Nm} {n : Nm} (h1 : pbefore p t) (h2 : pbefore t (p ++ [n])) : ∃ c r, t = p ++ c :: r ∧ nlt n c := by
  induction p generalizing t with
  | nil =>
    cases t with
    | nil => simp [pbefore] at h1
    | cons c r =>
      simp only [List.nil_append, pbefore] at h2
      rcases h2 with h | ⟨_, h⟩
      · exact ⟨c, r, rfl, h⟩
      · cases r <;> simp [pbefore] at h
  | cons a p ih =>
    cases t with
    | nil => simp [pbefore] at h1
    | cons b t =>
      simp only [List.cons_append, pbefore] at h1 h2
      rcases h1 with h1 | ⟨rfl, h1⟩
      · rcases h2 with h2 | ⟨rfl, h2⟩
        · exact absurd h1 (nlt_asymm h2)
        · exact absurd h1 (nlt_irrefl _)
      · rcases h2 with h2 | ⟨_, h2⟩
        · exact absurd h2 (nlt_irrefl _)
        · obtain ⟨c, r, rfl, hc⟩ := ih h1 h2
          exact ⟨c, r, rfl, hc⟩

/-- What stands behind p: below p, or at another, lesser child of one that p is below of. -/
theorem behind {p x : List Nm} (h : pbefore p x) : (∃ c r, x = p ++ c :: r) ∨ (∃ q a s b r, p = q ++ a :: s ∧ x = q ++ b :: r ∧ nlt b a) := by
  induction p generalizing x with
  | nil =>
    cases x with
    | nil => simp [pbefore] at h
    | cons c r => exact Or.inl ⟨c, r, rfl⟩
  | cons a p ih =>
    cases x with
    | nil => simp [pbefore] at h
    | cons b x =>
      simp only [pbefore] at h
      rcases h with h | ⟨rfl, h⟩
      · exact Or.inr ⟨[], a, p, b, x, rfl, rfl, h⟩
      · rcases ih h with ⟨c, r, rfl⟩ | ⟨q, a', s, b', r, rfl, rfl, hb⟩
        · exact Or.inl ⟨c, r, rfl⟩
        · exact Or.inr ⟨a :: q, a', s, b', r, rfl, rfl, hb⟩

/-- Names rise along a path. -/
def rises : List Nm → Prop
  | [] => True
  | [_] => True
  | a :: b :: r => nlt a b ∧ rises (b :: r)

theorem rises_cons {a : Nm} {r : List Nm} (h : rises (a :: r)) : ∀ x ∈ r, nlt a x := by
  induction r generalizing a with
  | nil => intro x hx; cases hx
  | cons b r ih =>
    intro x hx
    simp only [rises] at h
    rcases List.mem_cons.1 hx with rfl | hx
    · exact h.1
    · exact nlt_trans h.1 (ih h.2 x hx)

theorem rises_tail {a : Nm} {r : List Nm} (h : rises (a :: r)) : rises r := by
  cases r with
  | nil => trivial
  | cons b r => exact h.2

theorem rises_append {p q : List Nm} (h : rises (p ++ q)) : rises q := by
  induction p with
  | nil => exact h
  | cons a p ih => exact ih (rises_tail h)

/-- The last name. -/
def lastNm (p : List Nm) : Nm := p.getLastD (0, 0)

theorem lastNm_append (p : List Nm) (n : Nm) : lastNm (p ++ [n]) = n := by simp [lastNm, List.getLastD_eq_getLast?]

theorem lastNm_ge (q : List Nm) (a : Nm) (s : List Nm) (h : rises (q ++ a :: s)) : lastNm (q ++ a :: s) = a ∨ nlt a (lastNm (q ++ a :: s)) := by
  have hr := rises_append h
  have e : lastNm (q ++ a :: s) = (a :: s).getLast (by simp) := by
    unfold lastNm
    rw [List.getLastD_eq_getLast?, List.getLast?_append, List.getLast?_eq_some_getLast (l := a :: s) (by simp)]; rfl
  rw [e]
  cases s with
  | nil => left; rfl
  | cons b r =>
    right
    refine rises_cons hr _ ?_
    rw [List.getLast_cons (by simp)]
    exact List.getLast_mem _

/-- A row of paths: in the tree's order, whole below, rising. -/
structure PRow (l : List (List Nm)) : Prop where
  sorted : l.Pairwise pbefore
  rises : ∀ p ∈ l, rises p
  closed : ∀ p q : List Nm, p ≠ [] → p ++ q ∈ l → p ∈ l

/-- The new one goes behind the one that its maker saw ahead, and behind all that follow there and are greater: there it stands in the tree's order. -/
theorem insert_place (A S T : List (List Nm)) (p : List Nm) (n : Nm) (h : PRow (A ++ S ++ T)) (hA : (p = [] ∧ A = []) ∨ (∃ A', p ≠ [] ∧ A = A' ++ [p]))
    (hS : ∀ x ∈ S, nlt n (lastNm x)) (hT : ∀ t, T.head? = some t → ¬ nlt n (lastNm t)) (hn : p ≠ [] → nlt (lastNm p) n) (he : p ++ [n] ∉ A ++ S ++ T) (hne : [] ∉ A ++ S ++ T) :
    (A ++ S ++ (p ++ [n]) :: T).Pairwise pbefore := by
  have hs := h.sorted
  rw [List.pairwise_append, List.pairwise_append] at hs
  obtain ⟨⟨hsA, hsS, hAS⟩, hsT, hAST⟩ := hs
  -- whatever is not in A stands behind p
  have hpB : ∀ x ∈ S ++ T, pbefore p x := by
    intro x hx
    rcases hA with ⟨rfl, rfl⟩ | ⟨A', hp, rfl⟩
    · cases x with
      | nil => exact absurd (by simpa using hx) hne
      | cons c r => simp [pbefore]
    · rcases List.mem_append.1 hx with hx | hx
      · exact hAS p (by simp) x hx
      · exact hAST p (by simp) x hx
  have hpA : ∀ x ∈ A, x = p ∨ pbefore x p := by
    intro x hx
    rcases hA with ⟨rfl, rfl⟩ | ⟨A', hp, rfl⟩
    · cases hx
    · rcases List.mem_append.1 hx with hx | hx
      · right
        rw [List.pairwise_append] at hsA
        exact hsA.2.2 x hx p (by simp)
      · left; simpa using hx
  -- p is no more than A's last one: a path that is in the row and not in A, and is not behind x of S, is in S
  have inS : ∀ x ∈ S, ∀ y, y ∈ A ++ S ++ T → pbefore p y → (y = x ∨ pbefore y x) → y ∈ S := by
    intro x hx y hy hpy hyx
    rcases List.mem_append.1 hy with hy | hy
    · rcases List.mem_append.1 hy with hy | hy
      · rcases hpA y hy with rfl | h1
        · exact absurd hpy (pbefore_irrefl _)
        · exact absurd (pbefore_trans h1 hpy) (pbefore_irrefl _)
      · exact hy
    · have hxy := hAST x (by simp [hx]) y hy
      rcases hyx with rfl | h1
      · exact absurd hxy (pbefore_irrefl _)
      · exact absurd (pbefore_trans h1 hxy) (pbefore_irrefl _)
  have hpre : ∀ (u v : List Nm), v ≠ [] → pbefore u (u ++ v) := by
    intro u v hv
    cases v with
    | nil => exact absurd rfl hv
    | cons c r => exact pbefore_prefix u c r
  have memB : ∀ x ∈ S, x ∈ A ++ S ++ T := fun x hx => by simp [hx]
  have hxS : ∀ x ∈ S, pbefore x (p ++ [n]) := by
    intro x hx
    rcases behind (hpB x (by simp [hx])) with ⟨c, r, rfl⟩ | ⟨q, a, s, b, r, rfl, rfl, hba⟩
    · -- below p
      have hin : p ++ [c] ∈ A ++ S ++ T := h.closed (p ++ [c]) r (by simp) (by simpa using memB _ hx)
      have hin2 : p ++ [c] ∈ S := inS _ hx _ hin (pbefore_prefix p c []) (by
        cases r with
        | nil => left; rfl
        | cons d r => right; have := pbefore_prefix (p ++ [c]) d r; simpa using this)
      have hc := hS _ hin2
      rw [lastNm_append] at hc
      have : ∀ u : List Nm, pbefore (u ++ c :: r) (u ++ [n]) := by
        intro u
        induction u with
        | nil => simp only [List.nil_append, pbefore]; exact Or.inl hc
        | cons z u ih => simp only [List.cons_append, pbefore, true_and]; exact Or.inr ih
      exact this p
    · -- beside: then the maker had not seen a lesser one ahead
      exfalso
      have hin : q ++ [b] ∈ A ++ S ++ T := h.closed (q ++ [b]) r (by simp) (by simpa using memB _ hx)
      have hpb : ∀ u : List Nm, pbefore (u ++ a :: s) (u ++ [b]) := by
        intro u
        induction u with
        | nil => simp only [List.nil_append, pbefore]; exact Or.inl hba
        | cons z u ih => simp only [List.cons_append, pbefore, true_and]; exact Or.inr ih
      have hin2 : q ++ [b] ∈ S := inS _ hx _ hin (hpb q) (by
        cases r with
        | nil => left; rfl
        | cons d r => right; have := pbefore_prefix (q ++ [b]) d r; simpa using this)
      have hc := hS _ hin2
      rw [lastNm_append] at hc
      have hpin : q ++ a :: s ∈ A ++ S ++ T := by
        rcases hA with ⟨h0, _⟩ | ⟨A', _, rfl⟩
        · simp at h0
        · simp
      have h3 := hn (by simp)
      rcases lastNm_ge q a s (h.rises _ hpin) with h4 | h4
      · rw [h4] at h3; exact nlt_irrefl _ (nlt_trans (nlt_trans hba h3) hc)
      · exact nlt_irrefl _ (nlt_trans (nlt_trans hba (nlt_trans h4 h3)) hc)
  have hxT : ∀ x ∈ T, pbefore (p ++ [n]) x := by
    cases T with
    | nil => intro x hx; cases hx
    | cons t T =>
      have ht : pbefore (p ++ [n]) t := by
        rcases pbefore_total (p ++ [n]) t with h1 | h1 | h1
        · exact h1
        · exact absurd (by rw [h1]; simp) he
        · exfalso
          obtain ⟨c, r, rfl, hc⟩ := between (hpB t (by simp)) h1
          have h5 := hT _ rfl
          rcases lastNm_ge p c r (h.rises _ (by simp)) with h4 | h4
          · rw [h4] at h5; exact h5 hc
          · exact h5 (nlt_trans hc h4)
      intro x hx
      rcases List.mem_cons.1 hx with rfl | hx
      · exact ht
      · exact pbefore_trans ht ((List.pairwise_cons.1 hsT).1 x hx)
  have hxA : ∀ x ∈ A, pbefore x (p ++ [n]) := by
    intro x hx
    rcases hpA x hx with rfl | h1
    · exact pbefore_prefix _ _ _
    · exact pbefore_append h1 _
  rw [List.pairwise_append, List.pairwise_append]
  refine ⟨⟨hsA, hsS, hAS⟩, List.pairwise_cons.2 ⟨hxT, hsT⟩, ?_⟩
  intro x hx y hy
  rcases List.mem_cons.1 hy with rfl | hy
  · rcases List.mem_append.1 hx with hx | hx
    · exact hxA x hx
    · exact hxS x hx
  · exact hAST x hx y hy

/-- Two rows of the same paths are one. -/
theorem sorted_unique {l k : List (List Nm)} (hl : l.Pairwise pbefore) (hk : k.Pairwise pbefore) (h : ∀ x, x ∈ l ↔ x ∈ k) : l = k := by
  induction l generalizing k with
  | nil =>
    cases k with
    | nil => rfl
    | cons y k => exact absurd ((h y).2 (by simp)) (by simp)
  | cons x l ih =>
    cases k with
    | nil => exact absurd ((h x).1 (by simp)) (by simp)
    | cons y k =>
      obtain ⟨hx, hl'⟩ := List.pairwise_cons.1 hl
      obtain ⟨hy, hk'⟩ := List.pairwise_cons.1 hk
      have e : x = y := by
        rcases List.mem_cons.1 ((h x).1 (by simp)) with h1 | h1
        · exact h1
        · rcases List.mem_cons.1 ((h y).2 (by simp)) with h2 | h2
          · exact h2.symm
          · exact absurd (pbefore_trans (hx y h2) (hy x h1)) (pbefore_irrefl _)
      subst e
      congr 1
      refine ih hl' hk' (fun z => ⟨fun hz => ?_, fun hz => ?_⟩)
      · rcases List.mem_cons.1 ((h z).1 (by simp [hz])) with h1 | h1
        · subst h1; exact absurd (hx _ hz) (pbefore_irrefl _)
        · exact h1
      · rcases List.mem_cons.1 ((h z).2 (by simp [hz])) with h1 | h1
        · subst h1; exact absurd (hy _ hz) (pbefore_irrefl _)
        · exact h1

end Go.Chorus
