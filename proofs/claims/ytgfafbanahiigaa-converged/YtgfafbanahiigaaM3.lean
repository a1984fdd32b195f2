import Derived.Test.YtgfafbanahiigaaSpec
/- The plain mathematics of rows: the row is the walk of a tree, its order one and the same wherever it is; of no program. -/
set_option linter.unusedVariables false
set_option linter.unusedSimpArgs false
namespace Go.Chorus

/-- A name: clock, peer. -/
abbrev Nm := Nat × Nat

def nlt (a b : Nm) : Prop := a.1 < b.1 ∨ (a.1 = b.1 ∧ a.2 < b.2)

theorem nlt_irrefl (a : Nm) : ¬ nlt a a := by unfold nlt; omega
theorem nlt_trans {a b c : Nm} (h : nlt a b) (k : nlt b c) : nlt a c := by unfold nlt at *; omega
theorem nlt_total (a b : Nm) : nlt a b ∨ a = b ∨ nlt b a := by
  obtain ⟨a1, a2⟩ := a
  obtain ⟨b1, b2⟩ := b
  simp only [nlt, Prod.mk.injEq]; omega
theorem nlt_asymm {a b : Nm} (h : nlt a b) : ¬ nlt b a := by unfold nlt at *; omega

/-- A path: the names from the row's beginning down to an element; which of two comes first. -/
def pbefore : List Nm → List Nm → Prop
  | _, [] => False
  | [], _ :: _ => True
  | a :: p, b :: q => nlt b a ∨ (a = b ∧ pbefore p q)

theorem pbefore_irrefl (p : List Nm) : ¬ pbefore p p := by
  induction p with
  | nil => simp [pbefore]
  | cons a p ih => simp only [pbefore, true_and]; rintro (h | h); exact nlt_irrefl _ h; exact ih h

theorem pbefore_trans {p q r : List Nm} (h : pbefore p q) (k : pbefore q r) : pbefore p r := by
  induction p generalizing q r with
  | nil =>
    cases q with
    | nil => simp [pbefore] at h
    | cons b q =>
      cases r with
      | nil => simp [pbefore] at k
      | cons c r => simp [pbefore]
  | cons a p ih =>
    cases q with
    | nil => simp [pbefore] at h
    | cons b q =>
      cases r with
      | nil => simp [pbefore] at k
      | cons c r =>
        simp only [pbefore] at *
        rcases h with h | ⟨rfl, h⟩
        · rcases k with k | ⟨rfl, k⟩
          · exact Or.inl (nlt_trans k h)
          · exact Or.inl h
        · rcases k with k | ⟨rfl, k⟩
          · exact Or.inl k
          · exact Or.inr ⟨rfl, ih h k⟩

theorem pbefore_total (p q : List Nm) : pbefore p q ∨ p = q ∨ pbefore q p := by
  induction p generalizing q with
  | nil => cases q <;> simp [pbefore]
  | cons a p ih =>
    cases q with
    | nil => simp [pbefore]
    | cons b q =>
      simp only [pbefore]
      rcases nlt_total a b with h | rfl | h
      · exact Or.inr (Or.inr (Or.inl h))
      · rcases ih q with h | rfl | h
        · exact Or.inl (Or.inr ⟨rfl, h⟩)
        · exact Or.inr (Or.inl rfl)
        · exact Or.inr (Or.inr (Or.inr ⟨rfl, h⟩))
      · exact Or.inl (Or.inl h)

theorem pbefore_append {p q : List Nm} (h : pbefore p q) (s : List Nm) : pbefore p (q ++ s) := by
  induction p generalizing q with
  | nil =>
    cases q with
    | nil => simp [pbefore] at h
    | cons b q => simp [pbefore]
  | cons a p ih =>
    cases q with
    | nil => simp [pbefore] at h
    | cons b q =>
      simp only [pbefore, List.cons_append] at *
      rcases h with h | ⟨e, h⟩
      · exact Or.inl h
      · exact Or.inr ⟨e, ih h⟩

theorem pbefore_prefix (p : List Nm) (n : Nm) (s : List Nm) : pbefore p (p ++ n :: s) := by
  induction p with
  | nil => simp [pbefore]
  | cons a p ih => simp only [List.cons_append, pbefore, true_and]; exact Or.inr ih

/-- What stands behind p and ahead of p's new child n: below a greater child of p. -/
theorem between {p t : List Nm} {n : Nm} (h1 : pbefore p t) (h2 : pbefore t (p ++ [n])) : ∃ c r, t = p ++ c :: r ∧ nlt n c := by
  induction p generalizing t with
  | nil =>
    cases t with
    | nil => simp [pbefore] at h1
    | cons c r =>
      simp only [List.nil_append, pbefore] at h2
      rcases h2 with h | ⟨_, h⟩
      · exact ⟨c, r, rfl, h⟩
      · cases r <;> simp [pbefore] at h
  | cons a p ih =>
    cases t with
    | nil => simp [pbefore] at h1
    | cons b t =>
      simp only [List.cons_append, pbefore] at h1 h2
      rcases h1 with h1 | ⟨rfl, h1⟩
      · rcases h2 with h2 | ⟨rfl, h2⟩
        · exact absurd h1 (nlt_asymm h2)
        · exact absurd h1 (nlt_irrefl _)
      · rcases h2 with h2 | ⟨_, h2⟩
        · exact absurd h2 (nlt_irrefl _)
        · obtain ⟨c, r, rfl, hc⟩ := ih h1 h2
          exact ⟨c, r, rfl, hc⟩

/-- What stands behind p: below p, or at another, lesser child of one that p is below of. -/
theorem behind {p x : List Nm} (h : pbefore p x) : (∃ c r, x = p ++ c :: r) ∨ (∃ q a s b r, p = q ++ a :: s ∧ x = q ++ b :: r ∧ nlt b a) := by
  induction p generalizing x with
  | nil =>
    cases x with
    | nil => simp [pbefore] at h
    | cons c r => exact Or.inl ⟨c, r, rfl⟩
  | cons a p ih =>
    cases x with
    | nil => simp [pbefore] at h
    | cons b x =>
      simp only [pbefore] at h
      rcases h with h | ⟨rfl, h⟩
      · exact Or.inr ⟨[], a, p, b, x, rfl, rfl, h⟩
      · rcases ih h with ⟨c, r, rfl⟩ | ⟨q, a', s, b', r, rfl, rfl, hb⟩
        · exact Or.inl ⟨c, r, rfl⟩
        · exact Or.inr ⟨a :: q, a', s, b', r, rfl, rfl, hb⟩

/-- Names rise along a path. -/
def rises : List Nm → Prop
  | [] => True
  | [_] => True
  | a :: b :: r => nlt a b ∧ rises (b :: r)

theorem rises_cons {a : Nm} {r : List Nm} (h : rises (a :: r)) : ∀ x ∈ r, nlt a x := by
  induction r generalizing a with
  | nil => intro x hx; cases hx
  | cons b r ih =>
    intro x hx
    simp only [rises] at h
    rcases List.mem_cons.1 hx with rfl | hx
    · exact h.1
    · exact nlt_trans h.1 (ih h.2 x hx)

theorem rises_tail {a : Nm} {r : List Nm} (h : rises (a :: r)) : rises r := by
  cases r with
  | nil => trivial
  | cons b r => exact h.2

theorem rises_append {p q : List Nm} (h : rises (p ++ q)) : rises q := by
  induction p with
  | nil => exact h
  | cons a p ih => exact ih (rises_tail h)

/-- The last name. -/
def lastNm (p : List Nm) : Nm := p.getLastD (0, 0)

theorem lastNm_append (p : List Nm) (n : Nm) : lastNm (p ++ [n]) = n := by simp [lastNm, List.getLastD_eq_getLast?]

theorem lastNm_ge (q : List Nm) (a : Nm) (s : List Nm) (h : rises (q ++ a :: s)) : lastNm (q ++ a :: s) = a ∨ nlt a (lastNm (q ++ a :: s)) := by
  have hr := rises_append h
  have e : lastNm (q ++ a :: s) = (a :: s).getLast (by simp) := by
    unfold lastNm
    rw [List.getLastD_eq_getLast?, List.getLast?_append, List.getLast?_eq_some_getLast (l := a :: s) (by simp)]; rfl
  rw [e]
  cases s with
  | nil => left; rfl
  | cons b r =>
    right
    refine rises_cons hr _ ?_
    rw [List.getLast_cons (by simp)]
    exact List.getLast_mem _

/-- A row of paths: in the tree's order, whole below, rising. -/
structure PRow (l : List (List Nm)) : Prop where
  sorted : l.Pairwise pbefore
  rises : ∀ p ∈ l, rises p
  closed : ∀ p q : List Nm, p ≠ [] → p ++ q ∈ l → p ∈ l

/-- The new one goes behind the one that its maker saw ahead, and behind all that follow there and are greater: there it stands in the tree's order. -/
theorem insert_place (A S T : List (List Nm)) (p : List Nm) (n : Nm) (h : PRow (A ++ S ++ T)) (hA : (p = [] ∧ A = []) ∨ (∃ A', p ≠ [] ∧ A = A' ++ [p]))
    (hS : ∀ x ∈ S, nlt n (lastNm x)) (hT : ∀ t, T.head? = some t → ¬ nlt n (lastNm t)) (hn : p ≠ [] → nlt (lastNm p) n) (he : p ++ [n] ∉ A ++ S ++ T) (hne : [] ∉ A ++ S ++ T) :
    (A ++ S ++ (p ++ [n]) :: T).Pairwise pbefore := by
  have hs := h.sorted
  rw [List.pairwise_append, List.pairwise_append] at hs
  obtain ⟨⟨hsA, hsS, hAS⟩, hsT, hAST⟩ := hs
  -- whatever is not in A stands behind p
  have hpB : ∀ x ∈ S ++ T, pbefore p x := by
    intro x hx
    rcases hA with ⟨rfl, rfl⟩ | ⟨A', hp, rfl⟩
    · cases x with
      | nil => exact absurd (by simpa using hx) hne
      | cons c r => simp [pbefore]
    · rcases List.mem_append.1 hx with hx | hx
      · exact hAS p (by simp) x hx
      · exact hAST p (by simp) x hx
  have hpA : ∀ x ∈ A, x = p ∨ pbefore x p := by
    intro x hx
    rcases hA with ⟨rfl, rfl⟩ | ⟨A', hp, rfl⟩
    · cases hx
    · rcases List.mem_append.1 hx with hx | hx
      · right
        rw [List.pairwise_append] at hsA
        exact hsA.2.2 x hx p (by simp)
      · left; simpa using hx
  -- p is no more than A's last one: a path that is in the row and not in A, and is not behind x of S, is in S
  have inS : ∀ x ∈ S, ∀ y, y ∈ A ++ S ++ T → pbefore p y → (y = x ∨ pbefore y x) → y ∈ S := by
    intro x hx y hy hpy hyx
    rcases List.mem_append.1 hy with hy | hy
    · rcases List.mem_append.1 hy with hy | hy
      · rcases hpA y hy with rfl | h1
        · exact absurd hpy (pbefore_irrefl _)
        · exact absurd (pbefore_trans h1 hpy) (pbefore_irrefl _)
      · exact hy
    · have hxy := hAST x (by simp [hx]) y hy
      rcases hyx with rfl | h1
      · exact absurd hxy (pbefore_irrefl _)
      · exact absurd (pbefore_trans h1 hxy) (pbefore_irrefl _)
  have hpre : ∀ (u v : List Nm), v ≠ [] → pbefore u (u ++ v) := by
    intro u v hv
    cases v with
    | nil => exact absurd rfl hv
    | cons c r => exact pbefore_prefix u c r
  have memB : ∀ x ∈ S, x ∈ A ++ S ++ T := fun x hx => by simp [hx]
  have hxS : ∀ x ∈ S, pbefore x (p ++ [n]) := by
    intro x hx
    rcases behind (hpB x (by simp [hx])) with ⟨c, r, rfl⟩ | ⟨q, a, s, b, r, rfl, rfl, hba⟩
    · -- below p
      have hin : p ++ [c] ∈ A ++ S ++ T := h.closed (p ++ [c]) r (by simp) (by simpa using memB _ hx)
      have hin2 : p ++ [c] ∈ S := inS _ hx _ hin (pbefore_prefix p c []) (by
        cases r with
        | nil => left; rfl
        | cons d r => right; have := pbefore_prefix (p ++ [c]) d r; simpa using this)
      have hc := hS _ hin2
      rw [lastNm_append] at hc
      have : ∀ u : List Nm, pbefore (u ++ c :: r) (u ++ [n]) := by
        intro u
        induction u with
        | nil => simp only [List.nil_append, pbefore]; exact Or.inl hc
        | cons z u ih => simp only [List.cons_append, pbefore, true_and]; exact Or.inr ih
      exact this p
    · -- beside: then the maker had not seen a lesser one ahead
      exfalso
      have hin : q ++ [b] ∈ A ++ S ++ T := h.closed (q ++ [b]) r (by simp) (by simpa using memB _ hx)
      have hpb : ∀ u : List Nm, pbefore (u ++ a :: s) (u ++ [b]) := by
        intro u
        induction u with
        | nil => simp only [List.nil_append, pbefore]; exact Or.inl hba
        | cons z u ih => simp only [List.cons_append, pbefore, true_and]; exact Or.inr ih
      have hin2 : q ++ [b] ∈ S := inS _ hx _ hin (hpb q) (by
        cases r with
        | nil => left; rfl
        | cons d r => right; have := pbefore_prefix (q ++ [b]) d r; simpa using this)
      have hc := hS _ hin2
      rw [lastNm_append] at hc
      have hpin : q ++ a :: s ∈ A ++ S ++ T := by
        rcases hA with ⟨h0, _⟩ | ⟨A', _, rfl⟩
        · simp at h0
        · simp
      have h3 := hn (by simp)
      rcases lastNm_ge q a s (h.rises _ hpin) with h4 | h4
      · rw [h4] at h3; exact nlt_irrefl _ (nlt_trans (nlt_trans hba h3) hc)
      · exact nlt_irrefl _ (nlt_trans (nlt_trans hba (nlt_trans h4 h3)) hc)
  have hxT : ∀ x ∈ T, pbefore (p ++ [n]) x := by
    cases T with
    | nil => intro x hx; cases hx
    | cons t T =>
      have ht : pbefore (p ++ [n]) t := by
        rcases pbefore_total (p ++ [n]) t with h1 | h1 | h1
        · exact h1
        · exact absurd (by rw [h1]; simp) he
        · exfalso
          obtain ⟨c, r, rfl, hc⟩ := between (hpB t (by simp)) h1
          have h5 := hT _ rfl
          rcases lastNm_ge p c r (h.rises _ (by simp)) with h4 | h4
          · rw [h4] at h5; exact h5 hc
          · exact h5 (nlt_trans hc h4)
      intro x hx
      rcases List.mem_cons.1 hx with rfl | hx
      · exact ht
      · exact pbefore_trans ht ((List.pairwise_cons.1 hsT).1 x hx)
  have hxA : ∀ x ∈ A, pbefore x (p ++ [n]) := by
    intro x hx
    rcases hpA x hx with rfl | h1
    · exact pbefore_prefix _ _ _
    · exact pbefore_append h1 _
  rw [List.pairwise_append, List.pairwise_append]
  refine ⟨⟨hsA, hsS, hAS⟩, List.pairwise_cons.2 ⟨hxT, hsT⟩, ?_⟩
  intro x hx y hy
  rcases List.mem_cons.1 hy with rfl | hy
  · rcases List.mem_append.1 hx with hx | hx
    · exact hxA x hx
    · exact hxS x hx
  · exact hAST x hx y hy

/-- Two rows of the same paths are one. -/
theorem sorted_unique {l k : List (List Nm)} (hl : l.Pairwise pbefore) (hk : k.Pairwise pbefore) (h : ∀ x, x ∈ l ↔ x ∈ k) : l = k := by
  induction l generalizing k with
  | nil =>
    cases k with
    | nil => rfl
    | cons y k => exact absurd ((h y).2 (by simp)) (by simp)
  | cons x l ih =>
    cases k with
    | nil => exact absurd ((h x).1 (by simp)) (by simp)
    | cons y k =>
      obtain ⟨hx, hl'⟩ := List.pairwise_cons.1 hl
      obtain ⟨hy, hk'⟩ := List.pairwise_cons.1 hk
      have e : x = y := by
        rcases List.mem_cons.1 ((h x).1 (by simp)) with h1 | h1
        · exact h1
        · rcases List.mem_cons.1 ((h y).2 (by simp)) with h2 | h2
          · exact h2.symm
          · exact absurd (pbefore_trans (hx y h2) (hy x h1)) (pbefore_irrefl _)
      subst e
      congr 1
      refine ih hl' hk' (fun z => ⟨fun hz => ?_, fun hz => ?_⟩)
      · rcases List.mem_cons.1 ((h z).1 (by simp [hz])) with h1 | h1
        · subst h1; exact absurd (hx _ hz) (pbefore_irrefl _)
        · exact h1
      · rcases List.mem_cons.1 ((h z).2 (by simp [hz])) with h1 | h1
        · subst h1; exact absurd (hy _ hz) (pbefore_irrefl _)
        · exact h1

end Go.Chorus

/- P8's insertion keeps the tree's order; of no program. -/
set_option linter.unusedVariables false
set_option linter.unusedSimpArgs false
namespace Go.Chorus

def nm (e : El) : Nm := (e.clock, e.peer)

theorem isGreater_iff (e : El) (c p : Nat) : isGreater e c p = true ↔ nlt (c, p) (nm e) := by
  unfold isGreater greaterB nlt nm
  by_cases h : (e.clock : Int) = c
  · rw [if_pos h]; simp only [decide_eq_true_eq]; omega
  · rw [if_neg h]; simp only [decide_eq_true_eq]; omega

theorem behindGreater_eq (c p : Nat) (l : List El) (k : Nat) : behindGreater c p l k = k + (l.takeWhile fun e => isGreater e c p).length := by
  induction l generalizing k with
  | nil => rfl
  | cons e r ih =>
    unfold behindGreater
    by_cases h : isGreater e c p = true
    · rw [if_pos h, ih, List.takeWhile_cons_of_pos (by simpa using h)]; simp; omega
    · rw [if_neg h, List.takeWhile_cons_of_neg (by simpa using h)]; rfl

theorem find_absent (c p : Nat) (es : List El) (k : Nat) (h : ∀ e ∈ es, nm e ≠ (c, p)) : findFrom c p es k = -1 := by
  induction es generalizing k with
  | nil => rfl
  | cons e r ih =>
    unfold findFrom
    rw [if_neg (fun hh => h e (by simp) (by unfold nm; simp only [Prod.mk.injEq]; omega))]
    exact ih (k + 1) (fun x hx => h x (by simp [hx]))

theorem find_there (c p : Nat) (A B : List El) (e : El) (k : Nat) (h : ∀ x ∈ A, nm x ≠ (c, p)) (he : nm e = (c, p)) : findFrom c p (A ++ e :: B) k = ((k + A.length : Nat) : Int) := by
  induction A generalizing k with
  | nil =>
    unfold nm at he
    simp only [Prod.mk.injEq] at he
    show (if (e.clock : Int) = c ∧ (e.peer : Int) = p then (k : Int) else findFrom c p B (k + 1)) = _
    rw [if_pos (by omega)]; simp
  | cons x r ih =>
    simp only [List.cons_append]
    unfold findFrom
    rw [if_neg (fun hh => h x (by simp) (by unfold nm; simp only [Prod.mk.injEq]; omega)), ih (k + 1) (fun y hy => h y (by simp [hy]))]
    simp; omega

theorem find_iff (c p : Nat) (es : List El) : 0 ≤ findFrom c p es 0 ↔ ∃ e ∈ es, nm e = (c, p) := by
  constructor
  · intro h
    by_cases hx : ∃ e ∈ es, nm e = (c, p)
    · exact hx
    · have := find_absent c p es 0 (fun e he hn => hx ⟨e, he, hn⟩)
      omega
  · rintro ⟨e, he, hn⟩
    by_cases h : 0 ≤ findFrom c p es 0
    · exact h
    · exfalso
      -- the first of that name
      induction es with
      | nil => cases he
      | cons x r ih =>
        by_cases hx : nm x = (c, p)
        · have := find_there c p [] r x 0 (by simp) hx
          simp at this; rw [this] at h; omega
        · obtain ⟨A, B, e', rfl, hA, he'⟩ : ∃ A B e', r = A ++ e' :: B ∧ (∀ y ∈ A, nm y ≠ (c, p)) ∧ nm e' = (c, p) := by
            have her : e ∈ r := by
              rcases List.mem_cons.1 he with rfl | h1
              · exact absurd hn hx
              · exact h1
            clear ih h he hx
            induction r with
            | nil => cases her
            | cons y r ih =>
              by_cases hy : nm y = (c, p)
              · exact ⟨[], r, y, rfl, by simp, hy⟩
              · rcases List.mem_cons.1 her with rfl | h1
                · exact absurd hn hy
                · obtain ⟨A, B, e', rfl, hA, he'⟩ := ih h1
                  exact ⟨y :: A, B, e', rfl, by intro z hz; rcases List.mem_cons.1 hz with rfl | hz; exact hy; exact hA z hz, he'⟩
          have := find_there c p (x :: A) B e' 0 (by intro z hz; rcases List.mem_cons.1 hz with rfl | hz; exact hx; exact hA z hz) he'
          simp only [List.cons_append] at this
          rw [this] at h; omega

/-- A row whose elements' paths are π's. -/
structure RowOk (π : Nm → List Nm) (es : List El) : Prop where
  last : ∀ e ∈ es, π (nm e) ≠ [] ∧ lastNm (π (nm e)) = nm e
  row : PRow (es.map fun e => π (nm e))

theorem RowOk.names {π : Nm → List Nm} {es : List El} (h : RowOk π es) : (es.map nm).Nodup := by
  have := h.row.sorted
  rw [List.pairwise_map] at this
  rw [List.Nodup, List.pairwise_map]
  refine this.imp ?_
  intro a b hab he
  rw [he] at hab
  exact pbefore_irrefl _ hab

theorem head_dropWhile {α : Type} (f : α → Bool) (l : List α) (t : α) (h : (l.dropWhile f).head? = some t) : f t = false := by
  induction l with
  | nil => simp at h
  | cons x r ih =>
    by_cases hx : f x = true
    · rw [List.dropWhile_cons_of_pos hx] at h; exact ih h
    · rw [List.dropWhile_cons_of_neg hx] at h
      simp only [List.head?_cons, Option.some.injEq] at h
      subst h; simpa using hx

theorem take_while {α : Type} (f : α → Bool) (l : List α) : l.take (l.takeWhile f).length = l.takeWhile f := by
  induction l with
  | nil => rfl
  | cons x r ih =>
    by_cases hx : f x = true
    · rw [List.takeWhile_cons_of_pos hx]; simp [ih]
    · rw [List.takeWhile_cons_of_neg hx]; rfl

theorem drop_while {α : Type} (f : α → Bool) (l : List α) : l.drop (l.takeWhile f).length = l.dropWhile f := by
  induction l with
  | nil => rfl
  | cons x r ih =>
    by_cases hx : f x = true
    · rw [List.takeWhile_cons_of_pos hx, List.dropWhile_cons_of_pos hx]; simp [ih]
    · rw [List.takeWhile_cons_of_neg hx, List.dropWhile_cons_of_neg hx]; rfl

theorem mem_while {α : Type} (f : α → Bool) (l : List α) (x : α) (h : x ∈ l.takeWhile f) : f x = true := by
  induction l with
  | nil => cases h
  | cons y r ih =>
    by_cases hy : f y = true
    · rw [List.takeWhile_cons_of_pos hy] at h
      rcases List.mem_cons.1 h with rfl | h
      · exact hy
      · exact ih h
    · rw [List.takeWhile_cons_of_neg hy] at h; cases h

/-- What insertion does, in pieces: A ends with the one ahead; S are greater; T the rest. -/
theorem insertEl_pieces (es : List El) (c p bc bp : Nat) (ch : Int) (hnew : ∀ e ∈ es, nm e ≠ (c, p)) (hb : (bc = 0 ∧ bp = 0) ∨ ∃ e ∈ es, nm e = (bc, bp)) (hnd : (es.map nm).Nodup) (h0 : ¬ ∃ e ∈ es, nm e = (0, 0)) :
    ∃ A S T, es = A ++ S ++ T ∧ insertEl es c p bc bp ch = A ++ S ++ ⟨c, p, ch, false⟩ :: T ∧ ((bc = 0 ∧ bp = 0 ∧ A = []) ∨ (¬ (bc = 0 ∧ bp = 0) ∧ ∃ A' e, A = A' ++ [e] ∧ nm e = (bc, bp))) ∧
      (∀ x ∈ S, nlt (c, p) (nm x)) ∧ (∀ t, T.head? = some t → ¬ nlt (c, p) (nm t)) := by
  have hf : ¬ 0 ≤ findFrom c p es 0 := by rw [find_absent c p es 0 hnew]; omega
  -- the place behind which it goes
  obtain ⟨A, B, rfl, hk, hok, hA⟩ : ∃ A B, es = A ++ B ∧ (placeOf bc bp es).toNat = A.length ∧ placeOk bc bp es = true ∧ ((bc = 0 ∧ bp = 0 ∧ A = []) ∨ (¬ (bc = 0 ∧ bp = 0) ∧ ∃ A' e, A = A' ++ [e] ∧ nm e = (bc, bp))) := by
    by_cases hz : bc = 0 ∧ bp = 0
    · refine ⟨[], es, rfl, ?_, ?_, Or.inl ⟨hz.1, hz.2, rfl⟩⟩
      · unfold placeOf; rw [if_pos (by omega)]; rfl
      · unfold placeOk; rw [if_pos (by omega)]
    · obtain ⟨e, he, hn⟩ := hb.resolve_left hz
      obtain ⟨A', B, rfl⟩ := List.append_of_mem he
      have hA' : ∀ x ∈ A', nm x ≠ (bc, bp) := by
        intro x hx hxn
        rw [List.map_append, List.map_cons] at hnd
        have := (List.nodup_append.1 hnd).2.2 (nm x) (List.mem_map_of_mem hx) (nm e) (by simp)
        exact this (by rw [hxn, hn])
      have hfe := find_there bc bp A' B e 0 hA' hn
      refine ⟨A' ++ [e], B, by simp, ?_, ?_, Or.inr ⟨hz, A', e, rfl, hn⟩⟩
      · unfold placeOf; rw [if_neg (by omega), hfe]; simp
      · unfold placeOk; rw [if_neg (by omega), hfe]; simp
  refine ⟨A, B.takeWhile fun e => isGreater e c p, B.dropWhile fun e => isGreater e c p, ?_, ?_, hA, ?_, ?_⟩
  · rw [List.append_assoc, List.takeWhile_append_dropWhile]
  · unfold insertEl
    rw [if_neg (by rw [hok]; simp; omega)]
    simp only []
    rw [hk, List.drop_left, behindGreater_eq]
    have e1 : (A ++ B).take (A.length + (B.takeWhile fun e => isGreater e c p).length) = A ++ B.takeWhile fun e => isGreater e c p := by
      rw [List.take_append]
      have : A.length + (B.takeWhile fun e => isGreater e c p).length - A.length = (B.takeWhile fun e => isGreater e c p).length := by omega
      rw [this, List.take_of_length_le (by omega), take_while]
    have e2 : (A ++ B).drop (A.length + (B.takeWhile fun e => isGreater e c p).length) = B.dropWhile fun e => isGreater e c p := by
      rw [← List.drop_drop, List.drop_left, drop_while]
    rw [e1, e2]
  · intro x hx
    exact (isGreater_iff x c p).1 (mem_while (fun e => isGreater e c p) B x hx)
  · intro t ht hg
    have := head_dropWhile _ _ _ ht
    rw [(isGreater_iff t c p).2 hg] at this
    cases this

/-- P8 keeps the order. -/
theorem RowOk.insert {π : Nm → List Nm} {es : List El} (h : RowOk π es) (c p bc bp : Nat) (ch : Int) (hnew : ∀ e ∈ es, nm e ≠ (c, p)) (hb : (bc = 0 ∧ bp = 0) ∨ ∃ e ∈ es, nm e = (bc, bp)) (h0 : ¬ ∃ e ∈ es, nm e = (0, 0))
    (hlt : nlt (bc, bp) (c, p)) (hπ : π (c, p) = (if bc = 0 ∧ bp = 0 then [] else π (bc, bp)) ++ [(c, p)]) :
    RowOk π (insertEl es c p bc bp ch) ∧ ∀ x, x ∈ insertEl es c p bc bp ch ↔ x = ⟨c, p, ch, false⟩ ∨ x ∈ es := by
  obtain ⟨A, S, T, rfl, hi, hA, hS, hT⟩ := insertEl_pieces es c p bc bp ch hnew hb h.names h0
  rw [hi]
  have hmem : ∀ x, x ∈ A ++ S ++ (⟨c, p, ch, false⟩ : El) :: T ↔ x = ⟨c, p, ch, false⟩ ∨ x ∈ A ++ S ++ T := by
    intro x; simp only [List.mem_append, List.mem_cons]; constructor
    · rintro ((h | h) | h | h) <;> simp [h]
    · rintro (h | (h | h) | h) <;> simp [h]
  obtain ⟨P, hP⟩ : ∃ P, P = if bc = 0 ∧ bp = 0 then [] else π (bc, bp) := ⟨_, rfl⟩
  rw [← hP] at hπ
  have hPA : (P = [] ∧ A = []) ∨ (∃ A' e, P ≠ [] ∧ A = A' ++ [e] ∧ π (nm e) = P ∧ nm e = (bc, bp)) := by
    rcases hA with ⟨h1, h2, h3⟩ | ⟨h1, A', e, h2, h3⟩
    · left; exact ⟨by rw [hP, if_pos ⟨h1, h2⟩], h3⟩
    · right
      refine ⟨A', e, ?_, h2, ?_, h3⟩
      · rw [hP, if_neg h1, ← h3]; exact (h.last e (by rw [h2]; simp)).1
      · rw [hP, if_neg h1, h3]
  have hlastP : P ≠ [] → lastNm P = (bc, bp) := by
    intro hne
    rcases hPA with ⟨h1, _⟩ | ⟨A', e, _, h2, h3, h4⟩
    · exact absurd h1 hne
    · rw [← h3, (h.last e (by rw [h2]; simp)).2, h4]
  have hnotin : P ++ [(c, p)] ∉ (A ++ S ++ T).map fun e => π (nm e) := by
    intro hin
    obtain ⟨e, he, hpe⟩ := List.mem_map.1 hin
    have := (h.last e he).2
    rw [hpe, lastNm_append] at this
    exact hnew e he this.symm
  have hsort := insert_place (A.map fun e => π (nm e)) (S.map fun e => π (nm e)) (T.map fun e => π (nm e)) P (c, p) (by simpa using h.row)
    (by
      rcases hPA with ⟨h1, h2⟩ | ⟨A', e, h1, h2, h3, _⟩
      · left; exact ⟨h1, by rw [h2]; rfl⟩
      · right; exact ⟨A'.map fun e => π (nm e), h1, by rw [h2, List.map_append, ← h3]; rfl⟩)
    (by
      intro x hx
      obtain ⟨e, he, rfl⟩ := List.mem_map.1 hx
      rw [(h.last e (by simp [he])).2]; exact hS e he)
    (by
      intro t ht
      rw [List.head?_map] at ht
      obtain ⟨e, he, rfl⟩ := Option.map_eq_some_iff.1 ht
      have hm : e ∈ T := List.mem_of_mem_head? he
      rw [(h.last e (by simp [hm])).2]; exact hT e he)
    (by intro hne; rw [hlastP hne]; exact hlt)
    (by simpa using hnotin)
    (by
      intro hin
      have hin : ([] : List Nm) ∈ (A ++ S ++ T).map fun e => π (nm e) := by simpa using hin
      obtain ⟨e, he, hpe⟩ := List.mem_map.1 hin
      exact (h.last e he).1 hpe)
  refine ⟨⟨?_, ?_, ?_, ?_⟩, hmem⟩
  · intro e he
    rcases (hmem e).1 he with rfl | he
    · show π (c, p) ≠ [] ∧ lastNm (π (c, p)) = (c, p)
      rw [hπ]; exact ⟨by simp, lastNm_append _ _⟩
    · exact h.last e he
  · have : (A ++ S ++ (⟨c, p, ch, false⟩ : El) :: T).map (fun e => π (nm e)) = A.map (fun e => π (nm e)) ++ S.map (fun e => π (nm e)) ++ (P ++ [(c, p)]) :: T.map (fun e => π (nm e)) := by
      simp only [List.map_append, List.map_cons]
      rw [show π (nm (⟨c, p, ch, false⟩ : El)) = P ++ [(c, p)] from hπ]
    rw [this]; exact hsort
  · intro q hq
    obtain ⟨e, he, rfl⟩ := List.mem_map.1 hq
    rcases (hmem e).1 he with rfl | he
    · show rises (π (c, p))
      rw [hπ]
      rcases hPA with ⟨h1, _⟩ | ⟨A', e', _, h2, h3, h4⟩
      · rw [h1]; trivial
      · have hr : rises P := by rw [← h3]; exact h.row.rises _ (List.mem_map_of_mem (f := fun e => π (nm e)) (by rw [h2]; simp))
        have hl := hlastP (by assumption)
        have key : ∀ P : List Nm, P ≠ [] → rises P → nlt (lastNm P) (c, p) → rises (P ++ [(c, p)]) := by
          intro P
          induction P with
          | nil => intro h; exact absurd rfl h
          | cons a r ih =>
            intro _ hr hl
            cases r with
            | nil => exact ⟨hl, trivial⟩
            | cons b r => exact ⟨hr.1, ih (by simp) hr.2 (by simpa [lastNm] using hl)⟩
        exact key P (by assumption) hr (by rw [hl]; exact hlt)
    · exact h.row.rises _ (List.mem_map_of_mem (f := fun e => π (nm e)) he)
  · intro q r hq hqr
    have sub : ∀ z, z ∈ (A ++ S ++ T).map (fun e => π (nm e)) → z ∈ (A ++ S ++ (⟨c, p, ch, false⟩ : El) :: T).map (fun e => π (nm e)) := by
      intro z hz
      obtain ⟨e, he, rfl⟩ := List.mem_map.1 hz
      exact List.mem_map_of_mem (f := fun e => π (nm e)) ((hmem e).2 (Or.inr he))
    obtain ⟨e, he, hpe⟩ := List.mem_map.1 hqr
    rcases (hmem e).1 he with rfl | he
    · have hpe : P ++ [(c, p)] = q ++ r := by rw [← hπ]; exact hpe
      -- a beginning of the new path: the whole of it, or a beginning of the one ahead's
      by_cases hr : r = []
      · subst hr
        rw [List.append_nil] at hpe
        rw [← hpe, ← hπ]
        exact List.mem_map_of_mem (f := fun e => π (nm e)) (a := (⟨c, p, ch, false⟩ : El)) ((hmem _).2 (Or.inl rfl))
      · obtain ⟨r', x, rfl⟩ : ∃ r' x, r = r' ++ [x] := ⟨r.dropLast, r.getLast hr, (List.dropLast_concat_getLast hr).symm⟩
        rw [← List.append_assoc] at hpe
        have hP2 : P = q ++ r' := (List.append_inj' hpe rfl).1
        rcases hPA with ⟨h1, _⟩ | ⟨A', e', _, h2, h3, h4⟩
        · rw [h1] at hP2
          have := congrArg List.length hP2
          simp only [List.length_nil, List.length_append] at this
          exact absurd (List.length_eq_zero_iff.1 (by omega)) hq
        · refine sub _ (h.row.closed q r' hq ?_)
          rw [← hP2, ← h3]
          exact List.mem_map_of_mem (f := fun e => π (nm e)) (by rw [h2]; simp)
    · refine sub _ (h.row.closed q r hq ?_)
      rw [← hpe]
      exact List.mem_map_of_mem (f := fun e => π (nm e)) he

end Go.Chorus
