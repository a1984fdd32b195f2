import Derived.Test.YtgfafbanahiigaaGreatSpec
/- The plain mathematics of rows: the row is the walk of a tree, its order one and the same wherever it is; of no program. -/
set_option linter.unusedVariables false
set_option linter.unusedSimpArgs false
namespace Go.Chorus

/-- A name: clock, peer. -/
abbrev Nm := Nat × Nat

def nlt (a b : Nm) : Prop := a.1 < b.1 ∨ (a.1 = b.1 ∧ a.2 < b.2)

theorem nlt_irrefl (a : Nm) : ¬ nlt a a := by unfold nlt; omega
theorem nlt_trans {a b c : Nm} (h : nlt a b) (k : nlt b c) : nlt a c := by unfold nlt at *; omega
theorem nlt_total (a b : Nm) : nlt a b ∨ a = b ∨ nlt b a := by
  obtain ⟨a1, a2⟩ := a
  obtain ⟨b1, b2⟩ := b
  simp only [nlt, Prod.mk.injEq]; omega
theorem nlt_asymm {a b : Nm} (h : nlt a b) : ¬ nlt b a := by unfold nlt at *; omega

/-- A path: the names from the row's beginning down to an element; which of two comes first. -/
def pbefore : List Nm → List Nm → Prop
  | _, [] => False
  | [], _ :: _ => True
  | a :: p, b :: q => nlt b a ∨ (a = b ∧ pbefore p q)

theorem pbefore_irrefl (p : List Nm) : ¬ pbefore p p := by
  induction p with
  | nil => simp [pbefore]
  | cons a p ih => simp only [pbefore, true_and]; rintro (h | h); exact nlt_irrefl _ h; exact ih h

theorem pbefore_trans {p q r : List Nm} (h : pbefore p q) (k : pbefore q r) : pbefore p r := by
  induction p generalizing q r with
  | nil =>
    cases q with
    | nil => simp [pbefore] at h
    | cons b q =>
      cases r with
      | nil => simp [pbefore] at k
      | cons c r => simp [pbefore]
  | cons a p ih =>
    cases q with
    | nil => simp [pbefore] at h
    | cons b q =>
      cases r with
      | nil => simp [pbefore] at k
      | cons c r =>
        simp only [pbefore] at *
        rcases h with h | ⟨rfl, h⟩
        · rcases k with k | ⟨rfl, k⟩
          · exact Or.inl (nlt_trans k h)
          · exact Or.inl h
        · rcases k with k | ⟨rfl, k⟩
          · exact Or.inl k
          · exact Or.inr ⟨rfl, ih h k⟩

theorem pbefore_total (p q : List Nm) : pbefore p q ∨ p = q ∨ pbefore q p := by
  induction p generalizing q with
  | nil => cases q <;> simp [pbefore]
  | cons a p ih =>
    cases q with
    | nil => simp [pbefore]
    | cons b q =>
      simp only [pbefore]
      rcases nlt_total a b with h | rfl | h
      · exact Or.inr (Or.inr (Or.inl h))
      · rcases ih q with h | rfl | h
        · exact Or.inl (Or.inr ⟨rfl, h⟩)
        · exact Or.inr (Or.inl rfl)
        · exact Or.inr (Or.inr (Or.inr ⟨rfl, h⟩))
      · exact Or.inl (Or.inl h)

theorem pbefore_append {p q : List Nm} (h : pbefore p q) (s : List Nm) : pbefore p (q ++ s) := by
  induction p generalizing q with
  | nil =>
    cases q with
    | nil => simp [pbefore] at h
    | cons b q => simp [pbefore]
  | cons a p ih =>
    cases q with
    | nil => simp [pbefore] at h
    | cons b q =>
      simp only [pbefore, List.cons_append] at *
      rcases h with h | ⟨e, h⟩
      · exact Or.inl h
      · exact Or.inr ⟨e, ih h⟩

theorem pbefore_prefix (p : List Nm) (n : Nm) (s : List Nm) : pbefore p (p ++ n :: s) := by
  induction p with
  | nil => simp [pbefore]
  | cons a p ih => simp only [List.cons_append, pbefore, true_and]; exact Or.inr ih

/-- What stands behind p and ahead of p's new child n: below a greater child of p. -/
theorem between {p t : List Nm} {n : Nm} (h1 : pbefore p t) (h2 : pbefore t (p ++ [n])) : ∃ c r, t = p ++ c :: r ∧ nlt n c := by
  induction p generalizing t with
  | nil =>
    cases t with
    | nil => simp [pbefore] at h1
    | cons c r =>
      simp only [List.nil_append, pbefore] at h2
      rcases h2 with h | ⟨_, h⟩
      · exact ⟨c, r, rfl, h⟩
      · cases r <;> simp [pbefore] at h
  | cons a p ih =>
    cases t with
    | nil => simp [pbefore] at h1
    | cons b t =>
      simp only [List.cons_append, pbefore] at h1 h2
      rcases h1 with h1 | ⟨rfl, h1⟩
      · rcases h2 with h2 | ⟨rfl, h2⟩
        · exact absurd h1 (nlt_asymm h2)
        · exact absurd h1 (nlt_irrefl _)
      · rcases h2 with h2 | ⟨_, h2⟩
        · exact absurd h2 (nlt_irrefl _)
        · obtain ⟨c, r, rfl, hc⟩ := ih h1 h2
          exact ⟨c, r, rfl, hc⟩

/-- What stands behind p: below p, or at another, lesser child of one that p is below of. -/
theorem behind {p x : List Nm} (h : pbefore p x) : (∃ c r, x = p ++ c :: r) ∨ (∃ q a s b r, p = q ++ a :: s ∧ x = q ++ b :: r ∧ nlt b a) := by
  induction p generalizing x with
  | nil =>
    cases x with
    | nil => simp [pbefore] at h
    | cons c r => exact Or.inl ⟨c, r, rfl⟩
  | cons a p ih =>
    cases x with
    | nil => simp [pbefore] at h
    | cons b x =>
      simp only [pbefore] at h
      rcases h with h | ⟨rfl, h⟩
      · exact Or.inr ⟨[], a, p, b, x, rfl, rfl, h⟩
      · rcases ih h with ⟨c, r, rfl⟩ | ⟨q, a', s, b', r, rfl, rfl, hb⟩
        · exact Or.inl ⟨c, r, rfl⟩
        · exact Or.inr ⟨a :: q, a', s, b', r, rfl, rfl, hb⟩

/-- Names rise along a path. -/
def rises : List Nm → Prop
  | [] => True
  | [_] => True
  | a :: b :: r => nlt a b ∧ rises (b :: r)

theorem rises_cons {a : Nm} {r : List Nm} (h : rises (a :: r)) : ∀ x ∈ r, nlt a x := by
  induction r generalizing a with
  | nil => intro x hx; cases hx
  | cons b r ih =>
    intro x hx
    simp only [rises] at h
    rcases List.mem_cons.1 hx with rfl | hx
    · exact h.1
    · exact nlt_trans h.1 (ih h.2 x hx)

theorem rises_tail {a : Nm} {r : List Nm} (h : rises (a :: r)) : rises r := by
  cases r with
  | nil => trivial
  | cons b r => exact h.2

theorem rises_append {p q : List Nm} (h : rises (p ++ q)) : rises q := by
  induction p with
  | nil => exact h
  | cons a p ih => exact ih (rises_tail h)

/-- The last name. -/
def lastNm (p : List Nm) : Nm := p.getLastD (0, 0)

theorem lastNm_append (p : List Nm) (n : Nm) : lastNm (p ++ [n]) = n := by simp [lastNm, List.getLastD_eq_getLast?]

theorem lastNm_ge (q : List Nm) (a : Nm) (s : List Nm) (h : rises (q ++ a :: s)) : lastNm (q ++ a :: s) = a ∨ nlt a (lastNm (q ++ a :: s)) := by
  have hr := rises_append h
  have e : lastNm (q ++ a :: s) = (a :: s).getLast (by simp) := by
    unfold lastNm
    rw [List.getLastD_eq_getLast?, List.getLast?_append, List.getLast?_eq_some_getLast (l := a :: s) (by simp)]; rfl
  rw [e]
  cases s with
  | nil => left; rfl
  | cons b r =>
    right
    refine rises_cons hr _ ?_
    rw [List.getLast_cons (by simp)]
    exact List.getLast_mem _

/-- A row of paths: in the tree's order, whole below, rising. -/
structure PRow (l : List (List Nm)) : Prop where
  sorted : l.Pairwise pbefore
  rises : ∀ p ∈ l, rises p
  closed : ∀ p q : List Nm, p ≠ [] → p ++ q ∈ l → p ∈ l

/-- The new one goes behind the one that its maker saw ahead, and behind all that follow there and are greater: there it stands in the tree's order. -/
theorem insert_place (A S T : List (List Nm)) (p : List Nm) (n : Nm) (h : PRow (A ++ S ++ T)) (hA : (p = [] ∧ A = []) ∨ (∃ A', p ≠ [] ∧ A = A' ++ [p]))
    (hS : ∀ x ∈ S, nlt n (lastNm x)) (hT : ∀ t, T.head? = some t → ¬ nlt n (lastNm t)) (hn : p ≠ [] → nlt (lastNm p) n) (he : p ++ [n] ∉ A ++ S ++ T) (hne : [] ∉ A ++ S ++ T) :
    (A ++ S ++ (p ++ [n]) :: T).Pairwise pbefore := by
  have hs := h.sorted
  rw [List.pairwise_append, List.pairwise_append] at hs
  obtain ⟨⟨hsA, hsS, hAS⟩, hsT, hAST⟩ := hs
  -- whatever is not in A stands behind p
  have hpB : ∀ x ∈ S ++ T, pbefore p x := by
    intro x hx
    rcases hA with ⟨rfl, rfl⟩ | ⟨A', hp, rfl⟩
    · cases x with
      | nil => exact absurd (by simpa using hx) hne
      | cons c r => simp [pbefore]
    · rcases List.mem_append.1 hx with hx | hx
      · exact hAS p (by simp) x hx
      · exact hAST p (by simp) x hx
  have hpA : ∀ x ∈ A, x = p ∨ pbefore x p := by
    intro x hx
    rcases hA with ⟨rfl, rfl⟩ | ⟨A', hp, rfl⟩
    · cases hx
    · rcases List.mem_append.1 hx with hx | hx
      · right
        rw [List.pairwise_append] at hsA
        exact hsA.2.2 x hx p (by simp)
      · left; simpa using hx
  -- p is no more than A's last one: a path that is in the row and not in A, and is not behind x of S, is in S
  have inS : ∀ x ∈ S, ∀ y, y ∈ A ++ S ++ T → pbefore p y → (y = x ∨ pbefore y x) → y ∈ S := by
    intro x hx y hy hpy hyx
    rcases List.mem_append.1 hy with hy | hy
    · rcases List.mem_append.1 hy with hy | hy
      · rcases hpA y hy with rfl | h1
        · exact absurd hpy (pbefore_irrefl _)
        · exact absurd (pbefore_trans h1 hpy) (pbefore_irrefl _)
      · exact hy
    · have hxy := hAST x (by simp [hx]) y hy
      rcases hyx with rfl | h1
      · exact absurd hxy (pbefore_irrefl _)
      · exact absurd (pbefore_trans h1 hxy) (pbefore_irrefl _)
  have hpre : ∀ (u v : List Nm), v ≠ [] → pbefore u (u ++ v) := by
    intro u v hv
    cases v with
    | nil => exact absurd rfl hv
    | cons c r => exact pbefore_prefix u c r
  have memB : ∀ x ∈ S, x ∈ A ++ S ++ T := fun x hx => by simp [hx]
  have hxS : ∀ x ∈ S, pbefore x (p ++ [n]) := by
    intro x hx
    rcases behind (hpB x (by simp [hx])) with ⟨c, r, rfl⟩ | ⟨q, a, s, b, r, rfl, rfl, hba⟩
    · -- below p
      have hin : p ++ [c] ∈ A ++ S ++ T := h.closed (p ++ [c]) r (by simp) (by simpa using memB _ hx)
      have hin2 : p ++ [c] ∈ S := inS _ hx _ hin (pbefore_prefix p c []) (by
        cases r with
        | nil => left; rfl
        | cons d r => right; have := pbefore_prefix (p ++ [c]) d r; simpa using this)
      have hc := hS _ hin2
      rw [lastNm_append] at hc
      have : ∀ u : List Nm, pbefore (u ++ c :: r) (u ++ [n]) := by
        intro u
        induction u with
        | nil => simp only [List.nil_append, pbefore]; exact Or.inl hc
        | cons z u ih => simp only [List.cons_append, pbefore, true_and]; exact Or.inr ih
      exact this p
    · -- beside: then the maker had not seen a lesser one ahead
      exfalso
      have hin : q ++ [b] ∈ A ++ S ++ T := h.closed (q ++ [b]) r (by simp) (by simpa using memB _ hx)
      have hpb : ∀ u : List Nm, pbefore (u ++ a :: s) (u ++ [b]) := by
        intro u
        induction u with
        | nil => simp only [List.nil_append, pbefore]; exact Or.inl hba
        | cons z u ih => simp only [List.cons_append, pbefore, true_and]; exact Or.inr ih
      have hin2 : q ++ [b] ∈ S := inS _ hx _ hin (hpb q) (by
        cases r with
        | nil => left; rfl
        | cons d r => right; have := pbefore_prefix (q ++ [b]) d r; simpa using this)
      have hc := hS _ hin2
      rw [lastNm_append] at hc
      have hpin : q ++ a :: s ∈ A ++ S ++ T := by
        rcases hA with ⟨h0, _⟩ | ⟨A', _, rfl⟩
        · simp at h0
        · simp
      have h3 := hn (by simp)
      rcases lastNm_ge q a s (h.rises _ hpin) with h4 | h4
      · rw [h4] at h3; exact nlt_irrefl _ (nlt_trans (nlt_trans hba h3) hc)
      · exact nlt_irrefl _ (nlt_trans (nlt_trans hba (nlt_trans h4 h3)) hc)
  have hxT : ∀ x ∈ T, pbefore (p ++ [n]) x := by
    cases T with
    | nil => intro x hx; cases hx
    | cons t T =>
      have ht : pbefore (p ++ [n]) t := by
        rcases pbefore_total (p ++ [n]) t with h1 | h1 | h1
        · exact h1
        · exact absurd (by rw [h1]; simp) he
        · exfalso
          obtain ⟨c, r, rfl, hc⟩ := between (hpB t (by simp)) h1
          have h5 := hT _ rfl
          rcases lastNm_ge p c r (h.rises _ (by simp)) with h4 | h4
          · rw [h4] at h5; exact h5 hc
          · exact h5 (nlt_trans hc h4)
      intro x hx
      rcases List.mem_cons.1 hx with rfl | hx
      · exact ht
      · exact pbefore_trans ht ((List.pairwise_cons.1 hsT).1 x hx)
  have hxA : ∀ x ∈ A, pbefore x (p ++ [n]) := by
    intro x hx
    rcases hpA x hx with rfl | h1
    · exact pbefore_prefix _ _ _
    · exact pbefore_append h1 _
  rw [List.pairwise_append, List.pairwise_append]
  refine ⟨⟨hsA, hsS, hAS⟩, List.pairwise_cons.2 ⟨hxT, hsT⟩, ?_⟩
  intro x hx y hy
  rcases List.mem_cons.1 hy with rfl | hy
  · rcases List.mem_append.1 hx with hx | hx
    · exact hxA x hx
    · exact hxS x hx
  · exact hAST x hx y hy

/-- Two rows of the same paths are one. -/
theorem sorted_unique {l k : List (List Nm)} (hl : l.Pairwise pbefore) (hk : k.Pairwise pbefore) (h : ∀ x, x ∈ l ↔ x ∈ k) : l = k := by
  induction l generalizing k with
  | nil =>
    cases k with
    | nil => rfl
    | cons y k => exact absurd ((h y).2 (by simp)) (by simp)
  | cons x l ih =>
    cases k with
    | nil => exact absurd ((h x).1 (by simp)) (by simp)
    | cons y k =>
      obtain ⟨hx, hl'⟩ := List.pairwise_cons.1 hl
      obtain ⟨hy, hk'⟩ := List.pairwise_cons.1 hk
      have e : x = y := by
        rcases List.mem_cons.1 ((h x).1 (by simp)) with h1 | h1
        · exact h1
        · rcases List.mem_cons.1 ((h y).2 (by simp)) with h2 | h2
          · exact h2.symm
          · exact absurd (pbefore_trans (hx y h2) (hy x h1)) (pbefore_irrefl _)
      subst e
      congr 1
      refine ih hl' hk' (fun z => ⟨fun hz => ?_, fun hz => ?_⟩)
      · rcases List.mem_cons.1 ((h z).1 (by simp [hz])) with h1 | h1
        · subst h1; exact absurd (hx _ hz) (pbefore_irrefl _)
        · exact h1
      · rcases List.mem_cons.1 ((h z).2 (by simp [hz])) with h1 | h1
        · subst h1; exact absurd (hy _ hz) (pbefore_irrefl _)
        · exact h1

end Go.Chorus

/- P8's insertion keeps the tree's order; of no program. -/
set_option linter.unusedVariables false
set_option linter.unusedSimpArgs false
namespace Go.Chorus

def nm (e : El) : Nm := (e.clock, e.peer)

theorem isGreater_iff (e : El) (c p : Nat) : isGreater e c p = true ↔ nlt (c, p) (nm e) := by
  unfold isGreater greaterB nlt nm
  by_cases h : (e.clock : Int) = c
  · rw [if_pos h]; simp only [decide_eq_true_eq]; omega
  · rw [if_neg h]; simp only [decide_eq_true_eq]; omega

theorem behindGreater_eq (c p : Nat) (l : List El) (k : Nat) : behindGreater c p l k = k + (l.takeWhile fun e => isGreater e c p).length := by
  induction l generalizing k with
  | nil => rfl
  | cons e r ih =>
    unfold behindGreater
    by_cases h : isGreater e c p = true
    · rw [if_pos h, ih, List.takeWhile_cons_of_pos (by simpa using h)]; simp; omega
    · rw [if_neg h, List.takeWhile_cons_of_neg (by simpa using h)]; rfl

theorem find_absent (c p : Nat) (es : List El) (k : Nat) (h : ∀ e ∈ es, nm e ≠ (c, p)) : findFrom c p es k = -1 := by
  induction es generalizing k with
  | nil => rfl
  | cons e r ih =>
    unfold findFrom
    rw [if_neg (fun hh => h e (by simp) (by unfold nm; simp only [Prod.mk.injEq]; omega))]
    exact ih (k + 1) (fun x hx => h x (by simp [hx]))

theorem find_there (c p : Nat) (A B : List El) (e : El) (k : Nat) (h : ∀ x ∈ A, nm x ≠ (c, p)) (he : nm e = (c, p)) : findFrom c p (A ++ e :: B) k = ((k + A.length : Nat) : Int) := by
  induction A generalizing k with
  | nil =>
    unfold nm at he
    simp only [Prod.mk.injEq] at he
    show (if (e.clock : Int) = c ∧ (e.peer : Int) = p then (k : Int) else findFrom c p B (k + 1)) = _
    rw [if_pos (by omega)]; simp
  | cons x r ih =>
    simp only [List.cons_append]
    unfold findFrom
    rw [if_neg (fun hh => h x (by simp) (by unfold nm; simp only [Prod.mk.injEq]; omega)), ih (k + 1) (fun y hy => h y (by simp [hy]))]
    simp; omega

theorem find_iff (c p : Nat) (es : List El) : 0 ≤ findFrom c p es 0 ↔ ∃ e ∈ es, nm e = (c, p) := by
  constructor
  · intro h
    by_cases hx : ∃ e ∈ es, nm e = (c, p)
    · exact hx
    · have := find_absent c p es 0 (fun e he hn => hx ⟨e, he, hn⟩)
      omega
  · rintro ⟨e, he, hn⟩
    by_cases h : 0 ≤ findFrom c p es 0
    · exact h
    · exfalso
      -- the first of that name
      induction es with
      | nil => cases he
      | cons x r ih =>
        by_cases hx : nm x = (c, p)
        · have := find_there c p [] r x 0 (by simp) hx
          simp at this; rw [this] at h; omega
        · obtain ⟨A, B, e', rfl, hA, he'⟩ : ∃ A B e', r = A ++ e' :: B ∧ (∀ y ∈ A, nm y ≠ (c, p)) ∧ nm e' = (c, p) := by
            have her : e ∈ r := by
              rcases List.mem_cons.1 he with rfl | h1
              · exact absurd hn hx
              · exact h1
            clear ih h he hx
            induction r with
            | nil => cases her
            | cons y r ih =>
              by_cases hy : nm y = (c, p)
              · exact ⟨[], r, y, rfl, by simp, hy⟩
              · rcases List.mem_cons.1 her with rfl | h1
                · exact absurd hn hy
                · obtain ⟨A, B, e', rfl, hA, he'⟩ := ih h1
                  exact ⟨y :: A, B, e', rfl, by intro z hz; rcases List.mem_cons.1 hz with rfl | hz; exact hy; exact hA z hz, he'⟩
          have := find_there c p (x :: A) B e' 0 (by intro z hz; rcases List.mem_cons.1 hz with rfl | hz; exact hx; exact hA z hz) he'
          simp only [List.cons_append] at this
          rw [this] at h; omega

/-- A row whose elements' paths are π's. -/
structure RowOk (π : Nm → List Nm) (es : List El) : Prop where
  last : ∀ e ∈ es, π (nm e) ≠ [] ∧ lastNm (π (nm e)) = nm e
  row : PRow (es.map fun e => π (nm e))

theorem RowOk.names {π : Nm → List Nm} {es : List El} (h : RowOk π es) : (es.map nm).Nodup := by
  have := h.row.sorted
  rw [List.pairwise_map] at this
  rw [List.Nodup, List.pairwise_map]
  refine this.imp ?_
  intro a b hab he
  rw [he] at hab
  exact pbefore_irrefl _ hab

theorem head_dropWhile {α : Type} (f : α → Bool) (l : List α) (t : α) (h : (l.dropWhile f).head? = some t) : f t = false := by
  induction l with
  | nil => simp at h
  | cons x r ih =>
    by_cases hx : f x = true
    · rw [List.dropWhile_cons_of_pos hx] at h; exact ih h
    · rw [List.dropWhile_cons_of_neg hx] at h
      simp only [List.head?_cons, Option.some.injEq] at h
      subst h; simpa using hx

theorem take_while {α : Type} (f : α → Bool) (l : List α) : l.take (l.takeWhile f).length = l.takeWhile f := by
  induction l with
  | nil => rfl
  | cons x r ih =>
    by_cases hx : f x = true
    · rw [List.takeWhile_cons_of_pos hx]; simp [ih]
    · rw [List.takeWhile_cons_of_neg hx]; rfl

theorem drop_while {α : Type} (f : α → Bool) (l : List α) : l.drop (l.takeWhile f).length = l.dropWhile f := by
  induction l with
  | nil => rfl
  | cons x r ih =>
    by_cases hx : f x = true
    · rw [List.takeWhile_cons_of_pos hx, List.dropWhile_cons_of_pos hx]; simp [ih]
    · rw [List.takeWhile_cons_of_neg hx, List.dropWhile_cons_of_neg hx]; rfl

theorem mem_while {α : Type} (f : α → Bool) (l : List α) (x : α) (h : x ∈ l.takeWhile f) : f x = true := by
  induction l with
  | nil => cases h
  | cons y r ih =>
    by_cases hy : f y = true
    · rw [List.takeWhile_cons_of_pos hy] at h
      rcases List.mem_cons.1 h with rfl | h
      · exact hy
      · exact ih h
    · rw [List.takeWhile_cons_of_neg hy] at h; cases h

/-- What insertion does, in pieces: A ends with the one ahead; S are greater; T the rest. -/
theorem insertEl_pieces (es : List El) (c p bc bp : Nat) (ch : Int) (hnew : ∀ e ∈ es, nm e ≠ (c, p)) (hb : (bc = 0 ∧ bp = 0) ∨ ∃ e ∈ es, nm e = (bc, bp)) (hnd : (es.map nm).Nodup) (h0 : ¬ ∃ e ∈ es, nm e = (0, 0)) :
    ∃ A S T, es = A ++ S ++ T ∧ insertEl es c p bc bp ch = A ++ S ++ ⟨c, p, ch, false⟩ :: T ∧ ((bc = 0 ∧ bp = 0 ∧ A = []) ∨ (¬ (bc = 0 ∧ bp = 0) ∧ ∃ A' e, A = A' ++ [e] ∧ nm e = (bc, bp))) ∧
      (∀ x ∈ S, nlt (c, p) (nm x)) ∧ (∀ t, T.head? = some t → ¬ nlt (c, p) (nm t)) := by
  have hf : ¬ 0 ≤ findFrom c p es 0 := by rw [find_absent c p es 0 hnew]; omega
  -- the place behind which it goes
  obtain ⟨A, B, rfl, hk, hok, hA⟩ : ∃ A B, es = A ++ B ∧ (placeOf bc bp es).toNat = A.length ∧ placeOk bc bp es = true ∧ ((bc = 0 ∧ bp = 0 ∧ A = []) ∨ (¬ (bc = 0 ∧ bp = 0) ∧ ∃ A' e, A = A' ++ [e] ∧ nm e = (bc, bp))) := by
    by_cases hz : bc = 0 ∧ bp = 0
    · refine ⟨[], es, rfl, ?_, ?_, Or.inl ⟨hz.1, hz.2, rfl⟩⟩
      · unfold placeOf; rw [if_pos (by omega)]; rfl
      · unfold placeOk; rw [if_pos (by omega)]
    · obtain ⟨e, he, hn⟩ := hb.resolve_left hz
      obtain ⟨A', B, rfl⟩ := List.append_of_mem he
      have hA' : ∀ x ∈ A', nm x ≠ (bc, bp) := by
        intro x hx hxn
        rw [List.map_append, List.map_cons] at hnd
        have := (List.nodup_append.1 hnd).2.2 (nm x) (List.mem_map_of_mem hx) (nm e) (by simp)
        exact this (by rw [hxn, hn])
      have hfe := find_there bc bp A' B e 0 hA' hn
      refine ⟨A' ++ [e], B, by simp, ?_, ?_, Or.inr ⟨hz, A', e, rfl, hn⟩⟩
      · unfold placeOf; rw [if_neg (by omega), hfe]; simp
      · unfold placeOk; rw [if_neg (by omega), hfe]; simp
  refine ⟨A, B.takeWhile fun e => isGreater e c p, B.dropWhile fun e => isGreater e c p, ?_, ?_, hA, ?_, ?_⟩
  · rw [List.append_assoc, List.takeWhile_append_dropWhile]
  · unfold insertEl
    rw [if_neg (by rw [hok]; simp; omega)]
    simp only []
    rw [hk, List.drop_left, behindGreater_eq]
    have e1 : (A ++ B).take (A.length + (B.takeWhile fun e => isGreater e c p).length) = A ++ B.takeWhile fun e => isGreater e c p := by
      rw [List.take_append]
      have : A.length + (B.takeWhile fun e => isGreater e c p).length - A.length = (B.takeWhile fun e => isGreater e c p).length := by omega
      rw [this, List.take_of_length_le (by omega), take_while]
    have e2 : (A ++ B).drop (A.length + (B.takeWhile fun e => isGreater e c p).length) = B.dropWhile fun e => isGreater e c p := by
      rw [← List.drop_drop, List.drop_left, drop_while]
    rw [e1, e2]
  · intro x hx
    exact (isGreater_iff x c p).1 (mem_while (fun e => isGreater e c p) B x hx)
  · intro t ht hg
    have := head_dropWhile _ _ _ ht
    rw [(isGreater_iff t c p).2 hg] at this
    cases this

/-- P8 keeps the order. -/
theorem RowOk.insert {π : Nm → List Nm} {es : List El} (h : RowOk π es) (c p bc bp : Nat) (ch : Int) (hnew : ∀ e ∈ es, nm e ≠ (c, p)) (hb : (bc = 0 ∧ bp = 0) ∨ ∃ e ∈ es, nm e = (bc, bp)) (h0 : ¬ ∃ e ∈ es, nm e = (0, 0))
    (hlt : nlt (bc, bp) (c, p)) (hπ : π (c, p) = (if bc = 0 ∧ bp = 0 then [] else π (bc, bp)) ++ [(c, p)]) :
    RowOk π (insertEl es c p bc bp ch) ∧ ∀ x, x ∈ insertEl es c p bc bp ch ↔ x = ⟨c, p, ch, false⟩ ∨ x ∈ es := by
  obtain ⟨A, S, T, rfl, hi, hA, hS, hT⟩ := insertEl_pieces es c p bc bp ch hnew hb h.names h0
  rw [hi]
  have hmem : ∀ x, x ∈ A ++ S ++ (⟨c, p, ch, false⟩ : El) :: T ↔ x = ⟨c, p, ch, false⟩ ∨ x ∈ A ++ S ++ T := by
    intro x; simp only [List.mem_append, List.mem_cons]; constructor
    · rintro ((h | h) | h | h) <;> simp [h]
    · rintro (h | (h | h) | h) <;> simp [h]
  obtain ⟨P, hP⟩ : ∃ P, P = if bc = 0 ∧ bp = 0 then [] else π (bc, bp) := ⟨_, rfl⟩
  rw [← hP] at hπ
  have hPA : (P = [] ∧ A = []) ∨ (∃ A' e, P ≠ [] ∧ A = A' ++ [e] ∧ π (nm e) = P ∧ nm e = (bc, bp)) := by
    rcases hA with ⟨h1, h2, h3⟩ | ⟨h1, A', e, h2, h3⟩
    · left; exact ⟨by rw [hP, if_pos ⟨h1, h2⟩], h3⟩
    · right
      refine ⟨A', e, ?_, h2, ?_, h3⟩
      · rw [hP, if_neg h1, ← h3]; exact (h.last e (by rw [h2]; simp)).1
      · rw [hP, if_neg h1, h3]
  have hlastP : P ≠ [] → lastNm P = (bc, bp) := by
    intro hne
    rcases hPA with ⟨h1, _⟩ | ⟨A', e, _, h2, h3, h4⟩
    · exact absurd h1 hne
    · rw [← h3, (h.last e (by rw [h2]; simp)).2, h4]
  have hnotin : P ++ [(c, p)] ∉ (A ++ S ++ T).map fun e => π (nm e) := by
    intro hin
    obtain ⟨e, he, hpe⟩ := List.mem_map.1 hin
    have := (h.last e he).2
    rw [hpe, lastNm_append] at this
    exact hnew e he this.symm
  have hsort := insert_place (A.map fun e => π (nm e)) (S.map fun e => π (nm e)) (T.map fun e => π (nm e)) P (c, p) (by simpa using h.row)
    (by
      rcases hPA with ⟨h1, h2⟩ | ⟨A', e, h1, h2, h3, _⟩
      · left; exact ⟨h1, by rw [h2]; rfl⟩
      · right; exact ⟨A'.map fun e => π (nm e), h1, by rw [h2, List.map_append, ← h3]; rfl⟩)
    (by
      intro x hx
      obtain ⟨e, he, rfl⟩ := List.mem_map.1 hx
      rw [(h.last e (by simp [he])).2]; exact hS e he)
    (by
      intro t ht
      rw [List.head?_map] at ht
      obtain ⟨e, he, rfl⟩ := Option.map_eq_some_iff.1 ht
      have hm : e ∈ T := List.mem_of_mem_head? he
      rw [(h.last e (by simp [hm])).2]; exact hT e he)
    (by intro hne; rw [hlastP hne]; exact hlt)
    (by simpa using hnotin)
    (by
      intro hin
      have hin : ([] : List Nm) ∈ (A ++ S ++ T).map fun e => π (nm e) := by simpa using hin
      obtain ⟨e, he, hpe⟩ := List.mem_map.1 hin
      exact (h.last e he).1 hpe)
  refine ⟨⟨?_, ?_, ?_, ?_⟩, hmem⟩
  · intro e he
    rcases (hmem e).1 he with rfl | he
    · show π (c, p) ≠ [] ∧ lastNm (π (c, p)) = (c, p)
      rw [hπ]; exact ⟨by simp, lastNm_append _ _⟩
    · exact h.last e he
  · have : (A ++ S ++ (⟨c, p, ch, false⟩ : El) :: T).map (fun e => π (nm e)) = A.map (fun e => π (nm e)) ++ S.map (fun e => π (nm e)) ++ (P ++ [(c, p)]) :: T.map (fun e => π (nm e)) := by
      simp only [List.map_append, List.map_cons]
      rw [show π (nm (⟨c, p, ch, false⟩ : El)) = P ++ [(c, p)] from hπ]
    rw [this]; exact hsort
  · intro q hq
    obtain ⟨e, he, rfl⟩ := List.mem_map.1 hq
    rcases (hmem e).1 he with rfl | he
    · show rises (π (c, p))
      rw [hπ]
      rcases hPA with ⟨h1, _⟩ | ⟨A', e', _, h2, h3, h4⟩
      · rw [h1]; trivial
      · have hr : rises P := by rw [← h3]; exact h.row.rises _ (List.mem_map_of_mem (f := fun e => π (nm e)) (by rw [h2]; simp))
        have hl := hlastP (by assumption)
        have key : ∀ P : List Nm, P ≠ [] → rises P → nlt (lastNm P) (c, p) → rises (P ++ [(c, p)]) := by
          intro P
          induction P with
          | nil => intro h; exact absurd rfl h
          | cons a r ih =>
            intro _ hr hl
            cases r with
            | nil => exact ⟨hl, trivial⟩
            | cons b r => exact ⟨hr.1, ih (by simp) hr.2 (by simpa [lastNm] using hl)⟩
        exact key P (by assumption) hr (by rw [hl]; exact hlt)
    · exact h.row.rises _ (List.mem_map_of_mem (f := fun e => π (nm e)) he)
  · intro q r hq hqr
    have sub : ∀ z, z ∈ (A ++ S ++ T).map (fun e => π (nm e)) → z ∈ (A ++ S ++ (⟨c, p, ch, false⟩ : El) :: T).map (fun e => π (nm e)) := by
      intro z hz
      obtain ⟨e, he, rfl⟩ := List.mem_map.1 hz
      exact List.mem_map_of_mem (f := fun e => π (nm e)) ((hmem e).2 (Or.inr he))
    obtain ⟨e, he, hpe⟩ := List.mem_map.1 hqr
    rcases (hmem e).1 he with rfl | he
    · have hpe : P ++ [(c, p)] = q ++ r := by rw [← hπ]; exact hpe
      -- a beginning of the new path: the whole of it, or a beginning of the one ahead's
      by_cases hr : r = []
      · subst hr
        rw [List.append_nil] at hpe
        rw [← hpe, ← hπ]
        exact List.mem_map_of_mem (f := fun e => π (nm e)) (a := (⟨c, p, ch, false⟩ : El)) ((hmem _).2 (Or.inl rfl))
      · obtain ⟨r', x, rfl⟩ : ∃ r' x, r = r' ++ [x] := ⟨r.dropLast, r.getLast hr, (List.dropLast_concat_getLast hr).symm⟩
        rw [← List.append_assoc] at hpe
        have hP2 : P = q ++ r' := (List.append_inj' hpe rfl).1
        rcases hPA with ⟨h1, _⟩ | ⟨A', e', _, h2, h3, h4⟩
        · rw [h1] at hP2
          have := congrArg List.length hP2
          simp only [List.length_nil, List.length_append] at this
          exact absurd (List.length_eq_zero_iff.1 (by omega)) hq
        · refine sub _ (h.row.closed q r' hq ?_)
          rw [← hP2, ← h3]
          exact List.mem_map_of_mem (f := fun e => π (nm e)) (by rw [h2]; simp)
    · refine sub _ (h.row.closed q r hq ?_)
      rw [← hpe]
      exact List.mem_map_of_mem (f := fun e => π (nm e)) he

end Go.Chorus

/- What a group has made, and what a peer has of it: who knows the same has the same row; of no program. -/
set_option linter.unusedVariables false
set_option linter.unusedSimpArgs false
namespace Go.Chorus

def opNm (o : Ope) : Nm := (o.clock, o.peer)
def targ (o : Ope) : Nm := (o.nclock, o.npeer)
def sn (o : Ope) (j : Nat) : Nat := o.seen.getD j 0

/-- The paths that a history (the newest first) tells. -/
def pathOf : List Ope → Nm → List Nm
  | [], _ => []
  | o :: H, n => if o.ins = true ∧ opNm o = n then (if o.nclock = 0 ∧ o.npeer = 0 then [] else pathOf H (targ o)) ++ [n] else pathOf H n

/-- How many operations a peer has made. -/
def cnt : List Ope → Nat → Nat
  | [], _ => 0
  | o :: H, k => (if o.peer = k then 1 else 0) + cnt H k

/-- What a peer may make behind a history. -/
structure HistStep (o : Ope) (H : List Ope) : Prop where
  num : o.num = cnt H o.peer + 1
  own : sn o o.peer = cnt H o.peer
  made : ∀ j, sn o j ≤ cnt H j
  whole : ∀ q ∈ H, q.num ≤ sn o q.peer → ∀ j, sn q j ≤ sn o j
  clock : ∀ q ∈ H, q.num ≤ sn o q.peer → q.clock < o.clock
  pos : 0 < o.clock
  name : (o.ins = true ∧ targ o = (0, 0)) ∨ ∃ q ∈ H, q.ins = true ∧ q.num ≤ sn o q.peer ∧ opNm q = targ o

/-- A history as peers make one. -/
def HistOk : List Ope → Prop
  | [] => True
  | o :: H => HistOk H ∧ HistStep o H

theorem HistOk.nil : HistOk [] := trivial

theorem HistOk.cons {o : Ope} {H : List Ope} (h : HistOk H) (num : o.num = cnt H o.peer + 1) (own : sn o o.peer = cnt H o.peer) (made : ∀ j, sn o j ≤ cnt H j)
    (whole : ∀ q ∈ H, q.num ≤ sn o q.peer → ∀ j, sn q j ≤ sn o j) (clock : ∀ q ∈ H, q.num ≤ sn o q.peer → q.clock < o.clock) (pos : 0 < o.clock)
    (name : (o.ins = true ∧ targ o = (0, 0)) ∨ ∃ q ∈ H, q.ins = true ∧ q.num ≤ sn o q.peer ∧ opNm q = targ o) : HistOk (o :: H) := ⟨h, num, own, made, whole, clock, pos, name⟩

theorem HistOk.ind {motive : (H : List Ope) → HistOk H → Prop} (nil : motive [] HistOk.nil)
    (cons : ∀ {o : Ope} {H : List Ope} (h : HistOk H) (num : o.num = cnt H o.peer + 1) (own : sn o o.peer = cnt H o.peer) (made : ∀ j, sn o j ≤ cnt H j)
      (whole : ∀ q ∈ H, q.num ≤ sn o q.peer → ∀ j, sn q j ≤ sn o j) (clock : ∀ q ∈ H, q.num ≤ sn o q.peer → q.clock < o.clock) (pos : 0 < o.clock)
      (name : (o.ins = true ∧ targ o = (0, 0)) ∨ ∃ q ∈ H, q.ins = true ∧ q.num ≤ sn o q.peer ∧ opNm q = targ o) (_ : motive H h), motive (o :: H) (HistOk.cons h num own made whole clock pos name)) :
    {H : List Ope} → (h : HistOk H) → motive H h
  | [], _ => nil
  | _ :: _, ⟨h, num, own, made, whole, clock, pos, name⟩ => cons h num own made whole clock pos name (HistOk.ind nil cons h)

theorem HistOk.range {H : List Ope} (h : HistOk H) : ∀ q ∈ H, 1 ≤ q.num ∧ q.num ≤ cnt H q.peer ∧ 0 < q.clock := by
  induction h using HistOk.ind with
  | nil => intro q hq; cases hq
  | @cons o H h num own made whole clock pos name ih =>
    intro q hq
    rcases List.mem_cons.1 hq with rfl | hq
    · simp only [cnt, if_true]; omega
    · have := ih q hq
      refine ⟨this.1, ?_, this.2.2⟩
      simp only [cnt]; omega

/-- Of one peer, a later operation has a later clock. -/
theorem HistOk.older {o : Ope} {H : List Ope} (h : HistOk (o :: H)) : ∀ q ∈ H, q.peer = o.peer → q.num < o.num ∧ q.clock < o.clock := by
  match h with
  | ⟨h, num, own, made, whole, clock, pos, name⟩ =>
    intro q hq hp
    have hr := h.range q hq
    rw [hp] at hr
    exact ⟨by omega, clock q hq (by rw [hp, own]; exact hr.2.1)⟩

theorem HistOk.inj {H : List Ope} (h : HistOk H) : ∀ a ∈ H, ∀ b ∈ H, a.peer = b.peer → (a.num = b.num ∨ a.clock = b.clock) → a = b := by
  induction h using HistOk.ind with
  | nil => intro a ha; cases ha
  | @cons o H h num own made whole clock pos name ih =>
    have hold := (HistOk.cons h num own made whole clock pos name).older
    intro a ha b hb hp he
    rcases List.mem_cons.1 ha with ha' | ha'
    · rcases List.mem_cons.1 hb with hb' | hb'
      · rw [ha', hb']
      · subst ha'; have := hold b hb' hp.symm; omega
    · rcases List.mem_cons.1 hb with hb' | hb'
      · subst hb'; have := hold a ha' hp; omega
      · exact ih a ha' b hb' hp he

theorem HistOk.inj_name {H : List Ope} (h : HistOk H) {a b : Ope} (ha : a ∈ H) (hb : b ∈ H) (he : opNm a = opNm b) : a = b := by
  unfold opNm at he
  simp only [Prod.mk.injEq] at he
  exact h.inj a ha b hb he.2 (Or.inr he.1)

/-- What a history says of each of its operations. -/
theorem HistOk.of {H : List Ope} (h : HistOk H) : ∀ o ∈ H, ((o.ins = true ∧ targ o = (0, 0)) ∨ ∃ q ∈ H, q.ins = true ∧ q.num ≤ sn o q.peer ∧ opNm q = targ o ∧ q.clock < o.clock) ∧ (∀ j, sn o j ≤ cnt H j) ∧ sn o o.peer + 1 = o.num ∧ (∀ q ∈ H, q.num ≤ sn o q.peer → (∀ j, sn q j ≤ sn o j) ∧ q.clock < o.clock) := by
  induction h using HistOk.ind with
  | nil => intro o ho; cases ho
  | @cons o H h num own made whole clock pos name ih =>
    have hcn : ∀ j, cnt H j ≤ cnt (o :: H) j := fun j => by simp only [cnt]; omega
    intro x hx
    rcases List.mem_cons.1 hx with rfl | hx
    · refine ⟨?_, fun j => Nat.le_trans (made j) (hcn j), by omega, ?_⟩
      · rcases name with h1 | ⟨q, hq, h1, h2, h3⟩
        · exact Or.inl h1
        · exact Or.inr ⟨q, by simp [hq], h1, h2, h3, clock q hq h2⟩
      · intro q hq hs
        rcases List.mem_cons.1 hq with rfl | hq
        · rw [own] at hs; omega
        · exact ⟨whole q hq hs, clock q hq hs⟩
    · obtain ⟨h1, h2, h3, h4⟩ := ih x hx
      refine ⟨?_, fun j => Nat.le_trans (h2 j) (hcn j), h3, ?_⟩
      · rcases h1 with h1 | ⟨q, hq, h1⟩
        · exact Or.inl h1
        · exact Or.inr ⟨q, by simp [hq], h1⟩
      · intro q hq hs
        rcases List.mem_cons.1 hq with rfl | hq
        · have := h2 q.peer; omega
        · exact h4 q hq hs

/-- A name that the history's tail has, or that is none of the new one's, keeps its path. -/
theorem pathOf_cons {o : Ope} {H : List Ope} (h : HistOk (o :: H)) {q : Ope} (hq : q ∈ H) : pathOf (o :: H) (opNm q) = pathOf H (opNm q) := by
  show (if o.ins = true ∧ opNm o = opNm q then (if o.nclock = 0 ∧ o.npeer = 0 then [] else pathOf H (targ o)) ++ [opNm q] else pathOf H (opNm q)) = _
  rw [if_neg]
  rintro ⟨_, he⟩
  unfold opNm at he
  simp only [Prod.mk.injEq] at he
  have := h.older q hq he.2.symm
  omega

theorem pathOf_mem {H : List Ope} (h : HistOk H) : ∀ o ∈ H, o.ins = true → pathOf H (opNm o) = (if o.nclock = 0 ∧ o.npeer = 0 then [] else pathOf H (targ o)) ++ [opNm o] := by
  induction H with
  | nil => intro o ho; cases ho
  | cons x H ih =>
    intro o ho hi
    have hx := h
    match h with
    | ⟨h, num, own, made, whole, clock, pos, name⟩ =>
      rcases List.mem_cons.1 ho with rfl | ho
      · show (if o.ins = true ∧ opNm o = opNm o then (if o.nclock = 0 ∧ o.npeer = 0 then [] else pathOf H (targ o)) ++ [opNm o] else pathOf H (opNm o)) = _
        rw [if_pos ⟨hi, rfl⟩]
        by_cases hz : o.nclock = 0 ∧ o.npeer = 0
        · rw [if_pos hz, if_pos hz]
        · rw [if_neg hz, if_neg hz]
          rcases name with ⟨_, h1⟩ | ⟨q, hq, _, _, h3⟩
          · exfalso; unfold targ at h1; simp only [Prod.mk.injEq] at h1; exact hz h1
          · rw [← h3, pathOf_cons hx hq]
      · rw [pathOf_cons hx ho, ih h o ho hi]
        by_cases hz : o.nclock = 0 ∧ o.npeer = 0
        · rw [if_pos hz, if_pos hz]
        · rw [if_neg hz, if_neg hz]
          rcases (h.of o ho).1 with ⟨_, h1⟩ | ⟨q, hq, _, _, h3, _⟩
          · exfalso; unfold targ at h1; simp only [Prod.mk.injEq] at h1; exact hz h1
          · rw [← h3, pathOf_cons hx hq]

/-- What a peer that knows K has of the history H: its row. -/
structure View (H : List Ope) (K : Nat → Nat) (es : List El) : Prop where
  le : ∀ j, K j ≤ cnt H j
  causal : ∀ q ∈ H, q.num ≤ K q.peer → ∀ j, sn q j ≤ K j
  row : RowOk (pathOf H) es
  mem : ∀ e ∈ es, ∃ q ∈ H, q.ins = true ∧ q.num ≤ K q.peer ∧ opNm q = nm e ∧ e.char = q.char ∧ (e.dead = true ↔ ∃ d ∈ H, d.ins = false ∧ d.num ≤ K d.peer ∧ targ d = nm e)
  all : ∀ q ∈ H, q.ins = true → q.num ≤ K q.peer → ∃ e ∈ es, nm e = opNm q

theorem RowOk.congr {π ρ : Nm → List Nm} {es : List El} (h : RowOk π es) (he : ∀ e ∈ es, ρ (nm e) = π (nm e)) : RowOk ρ es := by
  have : (es.map fun e => ρ (nm e)) = es.map fun e => π (nm e) := List.map_congr_left he
  exact ⟨fun e hm => by rw [he e hm]; exact h.last e hm, by rw [this]; exact h.row⟩

theorem View.nil : View [] (fun _ => 0) [] where
  le := fun j => Nat.zero_le _
  causal := fun q hq => by cases hq
  row := by
    refine ⟨?_, List.Pairwise.nil, ?_, ?_⟩
    · intro e he; cases he
    · intro p hp; cases hp
    · intro p q _ hp; cases hp
  mem := fun e he => by cases he
  all := fun q hq => by cases hq

/-- Somebody has made one more: nothing turns for one that has not got it. -/
theorem View.more {o : Ope} {H : List Ope} {K : Nat → Nat} {row : List El} (v : View H K row) (h : HistOk (o :: H)) : View (o :: H) K row := by
  have hnum : ¬ o.num ≤ K o.peer := by
    match h with
    | ⟨h, num, own, made, whole, clock, pos, name⟩ => have := v.le o.peer; omega
  refine ⟨fun j => Nat.le_trans (v.le j) (by simp only [cnt]; omega), ?_, ?_, ?_, ?_⟩
  · intro q hq hk
    rcases List.mem_cons.1 hq with rfl | hq
    · exact absurd hk hnum
    · exact v.causal q hq hk
  · refine v.row.congr (fun e he => ?_)
    obtain ⟨q, hq, _, _, h3, _⟩ := v.mem e he
    rw [← h3]; exact pathOf_cons h hq
  · intro e he
    obtain ⟨q, hq, h1, h2, h3, h4, h5⟩ := v.mem e he
    refine ⟨q, by simp [hq], h1, h2, h3, h4, h5.trans ⟨?_, ?_⟩⟩
    · rintro ⟨d, hd, hh⟩; exact ⟨d, by simp [hd], hh⟩
    · rintro ⟨d, hd, h6, h7, h8⟩
      rcases List.mem_cons.1 hd with rfl | hd
      · exact absurd h7 hnum
      · exact ⟨d, hd, h6, h7, h8⟩
  · intro q hq hi hk
    rcases List.mem_cons.1 hq with rfl | hq
    · exact absurd hk hnum
    · exact v.all q hq hi hk

/-- One more is known. -/
def bump (K : Nat → Nat) (p : Nat) : Nat → Nat := fun j => if j = p then K j + 1 else K j

theorem bump_iff {H : List Ope} (h : HistOk H) {K : Nat → Nat} {o q : Ope} (ho : o ∈ H) (hq : q ∈ H) (hn : o.num = K o.peer + 1) : q.num ≤ bump K o.peer q.peer ↔ q = o ∨ q.num ≤ K q.peer := by
  unfold bump
  by_cases hp : q.peer = o.peer
  · rw [if_pos hp]
    constructor
    · intro hk
      by_cases he : q.num = o.num
      · left; exact h.inj q hq o ho hp (Or.inl he)
      · right; rw [hp] at hk ⊢; omega
    · rintro (rfl | hk)
      · omega
      · omega
  · rw [if_neg hp]
    constructor
    · exact Or.inr
    · rintro (rfl | hk)
      · exact absurd rfl hp
      · exact hk

theorem View.bump_le {H : List Ope} {K : Nat → Nat} {row : List El} (v : View H K row) (h : HistOk H) {o : Ope} (ho : o ∈ H) (hn : o.num = K o.peer + 1) : ∀ j, bump K o.peer j ≤ cnt H j := by
  intro j
  unfold bump
  by_cases hj : j = o.peer
  · rw [if_pos hj]
    have := (h.range o ho).2.1
    subst hj; omega
  · rw [if_neg hj]; exact v.le j

theorem View.bump_causal {H : List Ope} {K : Nat → Nat} {row : List El} (v : View H K row) (h : HistOk H) {o : Ope} (ho : o ∈ H) (hn : o.num = K o.peer + 1) (hs : ∀ j, sn o j ≤ K j) : ∀ q ∈ H, q.num ≤ bump K o.peer q.peer → ∀ j, sn q j ≤ bump K o.peer j := by
  intro q hq hk j
  have hb : K j ≤ bump K o.peer j := by unfold bump; split <;> omega
  rcases (bump_iff h ho hq hn).1 hk with rfl | hk
  · exact Nat.le_trans (hs j) hb
  · exact Nat.le_trans (v.causal q hq hk j) hb

/-- P8, an insertion. -/
theorem View.ins {H : List Ope} {K : Nat → Nat} {row : List El} (v : View H K row) (h : HistOk H) {o : Ope} (ho : o ∈ H) (hi : o.ins = true) (hn : o.num = K o.peer + 1) (hs : ∀ j, sn o j ≤ K j)
    (hd : ∀ d ∈ H, d.ins = false → d.num ≤ K d.peer → targ d ≠ opNm o) :
    View H (bump K o.peer) (insertEl row o.clock o.peer o.nclock o.npeer o.char) := by
  have hof := h.of o ho
  have hnew : ∀ e ∈ row, nm e ≠ (o.clock, o.peer) := by
    intro e he hne
    obtain ⟨q, hq, h1, h2, h3, _⟩ := v.mem e he
    have : q = o := h.inj_name hq ho (by rw [h3, hne]; rfl)
    subst this; omega
  have h0 : ¬ ∃ e ∈ row, nm e = (0, 0) := by
    rintro ⟨e, he, hz⟩
    obtain ⟨q, hq, _, _, h3, _⟩ := v.mem e he
    have := (h.range q hq).2.2
    rw [hz] at h3; unfold opNm at h3; simp only [Prod.mk.injEq] at h3; omega
  have hpos := (h.range o ho).2.2
  have hb : (o.nclock = 0 ∧ o.npeer = 0) ∨ ∃ e ∈ row, nm e = (o.nclock, o.npeer) := by
    rcases hof.1 with ⟨_, h1⟩ | ⟨q, hq, h1, h2, h3, _⟩
    · left; unfold targ at h1; simpa using h1
    · right
      obtain ⟨e, he, hne⟩ := v.all q hq h1 (Nat.le_trans h2 (hs q.peer))
      exact ⟨e, he, by rw [hne, h3]; rfl⟩
  have hlt : nlt (o.nclock, o.npeer) (o.clock, o.peer) := by
    left
    show o.nclock < o.clock
    rcases hof.1 with ⟨_, h1⟩ | ⟨q, hq, h1, h2, h3, h4⟩
    · unfold targ at h1; simp only [Prod.mk.injEq] at h1; omega
    · unfold opNm targ at h3; simp only [Prod.mk.injEq] at h3; omega
  obtain ⟨hrow, hmem⟩ := v.row.insert o.clock o.peer o.nclock o.npeer (o.char : Int) hnew hb h0 hlt (pathOf_mem h o ho hi)
  refine ⟨v.bump_le h ho hn, v.bump_causal h ho hn hs, hrow, ?_, ?_⟩
  · intro e he
    rcases (hmem e).1 he with rfl | he
    · refine ⟨o, ho, hi, (bump_iff h ho ho hn).2 (Or.inl rfl), rfl, rfl, ?_⟩
      constructor
      · intro hh; cases hh
      · rintro ⟨d, hdm, h1, h2, h3⟩
        rcases (bump_iff h ho hdm hn).1 h2 with rfl | h2
        · rw [hi] at h1; cases h1
        · exact absurd h3 (hd d hdm h1 h2)
    · obtain ⟨q, hq, h1, h2, h3, h4, h5⟩ := v.mem e he
      refine ⟨q, hq, h1, (bump_iff h ho hq hn).2 (Or.inr h2), h3, h4, h5.trans ⟨?_, ?_⟩⟩
      · rintro ⟨d, hdm, h6, h7, h8⟩; exact ⟨d, hdm, h6, (bump_iff h ho hdm hn).2 (Or.inr h7), h8⟩
      · rintro ⟨d, hdm, h6, h7, h8⟩
        rcases (bump_iff h ho hdm hn).1 h7 with rfl | h7
        · rw [hi] at h6; cases h6
        · exact ⟨d, hdm, h6, h7, h8⟩
  · intro q hq hqi hk
    rcases (bump_iff h ho hq hn).1 hk with rfl | hk
    · exact ⟨_, (hmem _).2 (Or.inl rfl), rfl⟩
    · obtain ⟨e, he, hne⟩ := v.all q hq hqi hk
      exact ⟨e, (hmem e).2 (Or.inr he), hne⟩

/-- A deletion that is known names what is known. -/
theorem View.dels {H : List Ope} {K : Nat → Nat} {row : List El} (v : View H K row) (h : HistOk H) {o : Ope} (ho : o ∈ H) (hi : o.ins = true) (hn : o.num = K o.peer + 1) : ∀ d ∈ H, d.ins = false → d.num ≤ K d.peer → targ d ≠ opNm o := by
  intro d hd h1 h2 h3
  rcases (h.of d hd).1 with ⟨h4, _⟩ | ⟨q, hq, h4, h5, h6, _⟩
  · rw [h4] at h1; cases h1
  · have : q = o := h.inj_name hq ho (by rw [h6, h3])
    subst this
    have := v.causal d hd h2 q.peer
    omega

theorem killEl_mem (es : List El) (c p : Nat) (hnd : (es.map nm).Nodup) : (killEl es c p).map nm = es.map nm ∧ ∀ x, x ∈ killEl es c p ↔ ∃ e ∈ es, x = if nm e = (c, p) then { e with dead := true } else e := by
  unfold killEl
  by_cases hf : 0 ≤ findFrom c p es 0
  · rw [if_pos hf]
    obtain ⟨e, he, hne⟩ := (find_iff c p es).1 hf
    obtain ⟨A, B, rfl⟩ := List.append_of_mem he
    rw [List.map_append, List.map_cons, List.nodup_append, List.nodup_cons] at hnd
    obtain ⟨hA, ⟨hB1, hB⟩, hAB⟩ := hnd
    have hA' : ∀ x ∈ A, nm x ≠ (c, p) := fun x hx hxn => hAB (nm x) (List.mem_map_of_mem hx) (nm e) (by simp) (by rw [hxn, hne])
    have hB' : ∀ x ∈ B, nm x ≠ (c, p) := fun x hx hxn => hB1 (by rw [hne, ← hxn]; exact List.mem_map_of_mem hx)
    have hfe := find_there c p A B e 0 hA' hne
    rw [hfe]
    have hm : (A ++ e :: B).modify (((0 + A.length : Nat) : Int)).toNat (fun e => { e with dead := true }) = A ++ { e with dead := true } :: B := by
      rw [show (((0 + A.length : Nat) : Int)).toNat = A.length by omega]
      clear hA hB1 hB hAB hA' hB' hfe he hne hf
      induction A with
      | nil => rfl
      | cons a A ih => simp only [List.cons_append, List.length_cons, List.modify_succ_cons, ih]
    rw [hm]
    refine ⟨by simp [nm], fun x => ⟨fun hx => ?_, ?_⟩⟩
    · rcases List.mem_append.1 hx with hx | hx
      · exact ⟨x, by simp [hx], by rw [if_neg (hA' x hx)]⟩
      · rcases List.mem_cons.1 hx with rfl | hx
        · exact ⟨e, by simp, by rw [if_pos hne]⟩
        · exact ⟨x, by simp [hx], by rw [if_neg (hB' x hx)]⟩
    · rintro ⟨y, hy, rfl⟩
      rcases List.mem_append.1 hy with hy | hy
      · rw [if_neg (hA' y hy)]; simp [hy]
      · rcases List.mem_cons.1 hy with rfl | hy
        · rw [if_pos hne]; simp
        · rw [if_neg (hB' y hy)]; simp [hy]
  · rw [if_neg hf]
    refine ⟨rfl, fun x => ⟨fun hx => ⟨x, hx, ?_⟩, ?_⟩⟩
    · rw [if_neg (fun hn => hf ((find_iff c p es).2 ⟨x, hx, hn⟩))]
    · rintro ⟨y, hy, rfl⟩
      rw [if_neg (fun hn => hf ((find_iff c p es).2 ⟨y, hy, hn⟩))]; exact hy

/-- P8, a deletion. -/
theorem View.del {H : List Ope} {K : Nat → Nat} {row : List El} (v : View H K row) (h : HistOk H) {o : Ope} (ho : o ∈ H) (hi : o.ins = false) (hn : o.num = K o.peer + 1) (hs : ∀ j, sn o j ≤ K j) :
    View H (bump K o.peer) (killEl row o.nclock o.npeer) := by
  obtain ⟨hnm, hmem⟩ := killEl_mem row o.nclock o.npeer v.row.names
  have hname : ∀ (e : El), nm (if nm e = (o.nclock, o.npeer) then { e with dead := true } else e) = nm e := by
    intro e; split <;> rfl
  refine ⟨v.bump_le h ho hn, v.bump_causal h ho hn hs, ?_, ?_, ?_⟩
  · refine ⟨fun e he => ?_, ?_⟩
    · obtain ⟨y, hy, rfl⟩ := (hmem e).1 he
      rw [hname]; exact v.row.last y hy
    · have : (killEl row o.nclock o.npeer).map (fun e => pathOf H (nm e)) = row.map fun e => pathOf H (nm e) := by
        have e : ∀ l : List El, (l.map fun e => pathOf H (nm e)) = (l.map nm).map (pathOf H) := fun l => by rw [List.map_map]; rfl
        rw [e, e, hnm]
      rw [this]; exact v.row.row
  · intro e he
    obtain ⟨y, hy, rfl⟩ := (hmem e).1 he
    obtain ⟨q, hq, h1, h2, h3, h4, h5⟩ := v.mem y hy
    refine ⟨q, hq, h1, (bump_iff h ho hq hn).2 (Or.inr h2), by rw [hname]; exact h3, by split <;> exact h4, ?_⟩
    rw [hname]
    constructor
    · intro hh
      by_cases ht : nm y = (o.nclock, o.npeer)
      · exact ⟨o, ho, hi, (bump_iff h ho ho hn).2 (Or.inl rfl), ht.symm⟩
      · rw [if_neg ht] at hh
        obtain ⟨d, hd, h6, h7, h8⟩ := h5.1 hh
        exact ⟨d, hd, h6, (bump_iff h ho hd hn).2 (Or.inr h7), h8⟩
    · rintro ⟨d, hd, h6, h7, h8⟩
      rcases (bump_iff h ho hd hn).1 h7 with rfl | h7
      · rw [if_pos (show nm y = (d.nclock, d.npeer) from h8.symm)]
      · have := h5.2 ⟨d, hd, h6, h7, h8⟩
        split
        · rfl
        · exact this
  · intro q hq hqi hk
    rcases (bump_iff h ho hq hn).1 hk with rfl | hk
    · rw [hi] at hqi; cases hqi
    · obtain ⟨e, he, hne⟩ := v.all q hq hqi hk
      exact ⟨_, (hmem _).2 ⟨e, he, rfl⟩, by rw [hname]; exact hne⟩

/-- WHO KNOWS THE SAME HAS THE SAME ROW. -/
theorem View.alike {H : List Ope} {K : Nat → Nat} {r s : List El} (h : HistOk H) (v : View H K r) (u : View H K s) : r = s := by
  have sub : ∀ {a b : List El}, View H K a → View H K b → ∀ x ∈ a, x ∈ b := by
    intro a b va vb x hx
    obtain ⟨q, hq, h1, h2, h3, h4, h5⟩ := va.mem x hx
    obtain ⟨e, he, hne⟩ := vb.all q hq h1 h2
    obtain ⟨q', hq', _, _, h3', h4', h5'⟩ := vb.mem e he
    have hxe : nm x = nm e := by rw [hne, h3]
    have : q' = q := h.inj_name hq' hq (by rw [h3', hne])
    subst this
    have : x = e := by
      obtain ⟨xc, xp, xch, xd⟩ := x
      obtain ⟨ec, ep, ech, ed⟩ := e
      unfold nm at hxe
      simp only [Prod.mk.injEq] at hxe
      obtain ⟨rfl, rfl⟩ := hxe
      simp only at h4 h4'
      subst h4 h4'
      have hdd : xd = true ↔ ed = true := h5.trans h5'.symm
      have : xd = ed := by
        cases xd with
        | true => exact (hdd.1 rfl).symm
        | false =>
          cases ed with
          | true => exact hdd.2 rfl
          | false => rfl
      rw [this]
    rw [this]; exact he
  have hp : (r.map fun e => pathOf H (nm e)) = s.map fun e => pathOf H (nm e) := by
    refine sorted_unique v.row.row.sorted u.row.row.sorted (fun x => ?_)
    simp only [List.mem_map]
    constructor
    · rintro ⟨e, he, rfl⟩; exact ⟨e, sub v u e he, rfl⟩
    · rintro ⟨e, he, rfl⟩; exact ⟨e, sub u v e he, rfl⟩
  -- the paths tell the elements
  have inj : ∀ (a b : List El), (∀ x ∈ a, x ∈ r) → (∀ x ∈ b, x ∈ r) → (a.map fun e => pathOf H (nm e)) = (b.map fun e => pathOf H (nm e)) → a = b := by
    intro a
    induction a with
    | nil => intro b _ _ hh; cases b with
      | nil => rfl
      | cons y b => cases hh
    | cons x a ih =>
      intro b ha hb hh
      cases b with
      | nil => cases hh
      | cons y b =>
        simp only [List.map_cons, List.cons.injEq] at hh
        have hx := ha x (by simp)
        have hy := hb y (by simp)
        have hn : nm x = nm y := by rw [← (v.row.last x hx).2, hh.1, (v.row.last y hy).2]
        have hxy : x = y := by
          have hnd := v.row.names
          obtain ⟨A, B, hr⟩ := List.append_of_mem hx
          rw [hr] at hnd hy
          rw [List.map_append, List.map_cons, List.nodup_append, List.nodup_cons] at hnd
          rcases List.mem_append.1 hy with h1 | h1
          · exact absurd hn.symm (hnd.2.2 (nm y) (List.mem_map_of_mem h1) (nm x) (by simp))
          · rcases List.mem_cons.1 h1 with h1 | h1
            · exact h1.symm
            · exact absurd (List.mem_map_of_mem (f := nm) h1) (by rw [← hn]; exact hnd.2.1.1)
        subst hxy
        rw [ih b (fun z hz => ha z (by simp [hz])) (fun z hz => hb z (by simp [hz])) hh.2]
  exact inj r s (fun x hx => hx) (fun x hx => sub u v x hx) hp

/-- The row stands in the tree's order. -/
theorem View.ordered {H : List Ope} {K : Nat → Nat} {r : List El} (v : View H K r) : r.Pairwise fun a b => pbefore (pathOf H (nm a)) (pathOf H (nm b)) := by
  have := v.row.row.sorted
  rwa [List.pairwise_map] at this

end Go.Chorus

/- A peer as the document has it (P5 to P9), and that it keeps its view of what the group has made; of no program. -/
set_option linter.unusedVariables false
set_option linter.unusedSimpArgs false
namespace Go.Chorus

/-- A peer: its number, its clock, how many of each peer's operations were delivered, its row, what waits. -/
structure Pr where
  me : Nat
  clock : Nat
  known : List Nat
  row : List El
  held : List Ope
  log : List (List Ope)

def Pr.k (s : Pr) (j : Nat) : Nat := s.known.getD j 0

/-- P8. -/
def Pr.apply (s : Pr) (o : Ope) : Pr :=
  { s with clock := max s.clock o.clock, known := s.known.set o.peer (s.k o.peer + 1), row := if o.ins then insertEl s.row o.clock o.peer o.nclock o.npeer o.char else killEl s.row o.nclock o.npeer, log := s.log.modify o.peer (· ++ [o]) }

/-- P9: can it be delivered? -/
def Pr.can (s : Pr) (o : Ope) : Bool := decide (o.num = s.k o.peer + 1) && (List.range s.known.length).all fun j => decide (sn o j ≤ s.k j)

/-- Of those that wait and can be delivered that of the least peer: its place. -/
def bestGo (s : Pr) : List Ope → Nat → Option (Nat × Ope) → Option (Nat × Ope)
  | [], _, b => b
  | o :: r, i, b => bestGo s r (i + 1) (if s.can o = true ∧ (∀ x, b = some x → o.peer < x.2.peer) then some (i, o) else b)

def Pr.best (s : Pr) : Option (Nat × Ope) := bestGo s s.held 0 none

/-- What waits and can be delivered, again and again: how many. -/
def settle : Nat → Pr → Pr × Nat
  | 0, s => (s, 0)
  | f + 1, s =>
    match s.best with
    | none => (s, 0)
    | some (i, o) => let t := settle f (({ s with held := s.held.eraseIdx i } : Pr).apply o); (t.1, t.2 + 1)

/-- P8, P9: an operation, and what can be delivered behind it: how many. -/
def Pr.deliver (s : Pr) (o : Ope) : Pr × Nat := let t := settle s.held.length (s.apply o); (t.1, t.2 + 1)

/-- P7, of one packet that is right: how many, and which error. -/
def Pr.one (s : Pr) (o : Ope) : Pr × Nat × Int :=
  if o.peer = s.me ∧ s.k s.me < o.num then (s, 0, 6)
  else if o.num ≤ s.k o.peer ∨ (∃ q ∈ s.held, q.peer = o.peer ∧ q.num = o.num) then (s, 0, 0)
  else if s.can o then ((s.deliver o).1, (s.deliver o).2, 0)
  else if 16 ≤ s.held.length then (s, 0, 5)
  else ({ s with held := s.held ++ [o] }, 0, 0)

theorem can_iff (s : Pr) (o : Ope) : s.can o = true ↔ o.num = s.k o.peer + 1 ∧ ∀ j, j < s.known.length → sn o j ≤ s.k j := by
  simp [Pr.can]

/-- What the search finds. -/
theorem bestGo_spec (s : Pr) (l : List Ope) (i : Nat) (b : Option (Nat × Ope)) (all : List Ope) (hb : ∀ x, b = some x → all[x.1]? = some x.2 ∧ s.can x.2 = true) (hl : ∀ j, l[j]? = all[i + j]?) :
    (∀ x, bestGo s l i b = some x → all[x.1]? = some x.2 ∧ s.can x.2 = true) ∧ (bestGo s l i b = none → b = none ∧ ∀ o ∈ l, s.can o = false) := by
  induction l generalizing i b with
  | nil => exact ⟨fun x hx => hb x hx, fun h => ⟨h, fun o ho => by cases ho⟩⟩
  | cons o r ih =>
    unfold bestGo
    have h0 : all[i]? = some o := by have := hl 0; simpa using this.symm
    have hl' : ∀ j, r[j]? = all[i + 1 + j]? := fun j => by have := hl (j + 1); simp at this; rw [this]; congr 1; omega
    by_cases hc : s.can o = true ∧ (∀ x, b = some x → o.peer < x.2.peer)
    · rw [if_pos hc]
      obtain ⟨h1, h2⟩ := ih (i + 1) (some (i, o)) (fun x hx => by cases hx; exact ⟨h0, hc.1⟩) hl'
      exact ⟨h1, fun hn => by have := (h2 hn).1; cases this⟩
    · rw [if_neg hc]
      obtain ⟨h1, h2⟩ := ih (i + 1) b hb hl'
      refine ⟨h1, fun hn => ?_⟩
      obtain ⟨h3, h4⟩ := h2 hn
      refine ⟨h3, fun q hq => ?_⟩
      rcases List.mem_cons.1 hq with rfl | hq
      · by_cases hq : s.can q = true
        · exact absurd ⟨hq, fun x hx => by rw [h3] at hx; cases hx⟩ hc
        · simpa using hq
      · exact h4 q hq

theorem best_some {s : Pr} {i : Nat} {o : Ope} (h : s.best = some (i, o)) : s.held[i]? = some o ∧ s.can o = true :=
  (bestGo_spec s s.held 0 none s.held (fun x hx => by cases hx) (fun j => by simp)).1 (i, o) h

theorem best_none {s : Pr} (h : s.best = none) : ∀ o ∈ s.held, s.can o = false :=
  ((bestGo_spec s s.held 0 none s.held (fun x hx => by cases hx) (fun j => by simp)).2 h).2

/-- Of each peer the operations that were delivered, by their numbers. -/
structure LogIn (N : Nat) (H : List Ope) (k : Nat → Nat) (log : List (List Ope)) : Prop where
  len : log.length = N
  each : ∀ (j : Nat) (l : List Ope), log[j]? = some l → l.length = k j ∧ ∀ (i : Nat) (o : Ope), l[i]? = some o → o ∈ H ∧ o.peer = j ∧ o.num = i + 1

theorem LogIn.more {N : Nat} {H : List Ope} {k : Nat → Nat} {log : List (List Ope)} (h : LogIn N H k log) {H' : List Ope} (hH : ∀ q ∈ H, q ∈ H') : LogIn N H' k log :=
  ⟨h.len, fun j l hl => ⟨(h.each j l hl).1, fun i o hi => ⟨hH o ((h.each j l hl).2 i o hi).1, ((h.each j l hl).2 i o hi).2⟩⟩⟩

theorem LogIn.bump {N : Nat} {H : List Ope} {k : Nat → Nat} {log : List (List Ope)} (h : LogIn N H k log) {o : Ope} (ho : o ∈ H) (hn : o.num = k o.peer + 1) : LogIn N H (bump k o.peer) (log.modify o.peer (· ++ [o])) := by
  refine ⟨by rw [List.length_modify]; exact h.len, fun j l hl => ?_⟩
  rw [List.getElem?_modify] at hl
  unfold Go.Chorus.bump
  by_cases hj : j = o.peer
  · subst hj
    cases hx : log[o.peer]? with
    | none => rw [hx] at hl; simp at hl
    | some l0 =>
      rw [hx] at hl
      simp at hl
      subst hl
      obtain ⟨a, b⟩ := h.each o.peer l0 hx
      refine ⟨by simp [a], fun i q hi => ?_⟩
      by_cases hil : i < l0.length
      · rw [List.getElem?_append_left hil] at hi
        exact b i q hi
      · rw [List.getElem?_append_right (by omega)] at hi
        have : i - l0.length = 0 := by
          by_cases h0 : i - l0.length = 0
          · exact h0
          · rw [List.getElem?_eq_none (by simp; omega)] at hi; cases hi
        rw [this] at hi
        simp at hi
        subst hi
        exact ⟨ho, rfl, by omega⟩
  · have hj' : ¬ o.peer = j := fun e => hj e.symm
    rw [if_neg hj]
    exact h.each j l (by simpa [hj'] using hl)

/-- A peer that keeps to the document, in a group of N that has made H; but for what may be delivered. -/
structure PeerIn (N : Nat) (H : List Ope) (s : Pr) : Prop where
  len : s.known.length = N
  me : s.me < N
  view : View H s.k s.row
  own : s.k s.me = cnt H s.me
  clock : ∀ q ∈ H, q.num ≤ s.k q.peer → q.clock ≤ s.clock
  held : ∀ q ∈ s.held, q ∈ H
  once : s.held.Nodup
  late : ∀ q ∈ s.held, s.k q.peer < q.num
  log : LogIn N H s.k s.log

/-- And what can be delivered does not wait. -/
def PeerOk (N : Nat) (H : List Ope) (s : Pr) : Prop := PeerIn N H s ∧ ∀ q ∈ s.held, s.can q = false

theorem k_apply (s : Pr) (o : Ope) (h : o.peer < s.known.length) : (s.apply o).k = bump s.k o.peer := by
  funext j
  unfold Pr.k Pr.apply bump
  simp only [List.getD_eq_getElem?_getD, List.getElem?_set]
  by_cases hj : j = o.peer
  · subst hj; simp [h, Pr.k]
  · rw [if_neg (fun e => hj e.symm), if_neg hj]

/-- Peers of a group. -/
def InGroup (N : Nat) (H : List Ope) : Prop := ∀ q ∈ H, q.peer < N ∧ q.seen.length ≤ N

theorem sn_beyond {N : Nat} {H : List Ope} (hg : InGroup N H) {q : Ope} (hq : q ∈ H) {j : Nat} (hj : N ≤ j) : sn q j = 0 := by
  unfold sn
  rw [List.getD_eq_getElem?_getD, List.getElem?_eq_none (by have := (hg q hq).2; omega)]; rfl

theorem can_seen {N : Nat} {H : List Ope} {s : Pr} (hg : InGroup N H) (hlen : s.known.length = N) {o : Ope} (ho : o ∈ H) (hc : s.can o = true) : ∀ j, sn o j ≤ s.k j := by
  intro j
  by_cases hj : j < N
  · exact ((can_iff s o).1 hc).2 j (by omega)
  · rw [sn_beyond hg ho (by omega)]; exact Nat.zero_le _

theorem PeerIn.apply {N : Nat} {H : List Ope} {s : Pr} (h : HistOk H) (hg : InGroup N H) (p : PeerIn N H s) {o : Ope} (ho : o ∈ H) (hnh : o ∉ s.held) (hc : s.can o = true) : PeerIn N H (s.apply o) ∧ (s.apply o).k = bump s.k o.peer := by
  have hp := (hg o ho).1
  have hk := k_apply s o (by rw [p.len]; exact hp)
  have hnum := ((can_iff s o).1 hc).1
  have hseen := can_seen hg p.len ho hc
  refine ⟨⟨?_, p.me, ?_, ?_, ?_, p.held, p.once, ?_, by rw [hk]; exact p.log.bump ho hnum⟩, hk⟩
  · show (s.known.set _ _).length = N
    rw [List.length_set]; exact p.len
  · rw [hk]
    show View H _ (if o.ins then _ else _)
    cases hi : o.ins with
    | true => exact p.view.ins h ho hi hnum hseen (p.view.dels h ho hi hnum)
    | false => exact p.view.del h ho hi hnum hseen
  · rw [hk]
    show bump s.k o.peer s.me = _
    unfold bump
    by_cases hm : s.me = o.peer
    · exfalso
      have := (h.range o ho).2.1
      have h2 := p.own
      rw [hm] at h2
      omega
    · rw [if_neg hm]; exact p.own
  · rw [hk]
    intro q hq hqk
    show q.clock ≤ max s.clock o.clock
    rcases (bump_iff h ho hq hnum).1 hqk with rfl | h1
    · exact Nat.le_max_right _ _
    · exact Nat.le_trans (p.clock q hq h1) (Nat.le_max_left _ _)
  · rw [hk]
    intro q hq
    have hq : q ∈ s.held := hq
    have h1 := p.late q hq
    by_cases hle : q.num ≤ bump s.k o.peer q.peer
    · rcases (bump_iff h ho (p.held q hq) hnum).1 hle with rfl | h2
      · exact absurd hq hnh
      · omega
    · omega

theorem mem_eraseIdx_ne {α : Type} {l : List α} {i : Nat} {o q : α} (hn : l.Nodup) (hi : l[i]? = some o) : q ∈ l.eraseIdx i ↔ q ∈ l ∧ q ≠ o := by
  obtain ⟨hlt, rfl⟩ := List.getElem?_eq_some_iff.1 hi
  rw [List.mem_eraseIdx_iff_getElem?]
  constructor
  · rintro ⟨j, hj, hq⟩
    refine ⟨List.mem_of_getElem? hq, ?_⟩
    obtain ⟨hjl, rfl⟩ := List.getElem?_eq_some_iff.1 hq
    intro he
    exact hj ((List.getElem_inj hn).1 he)
  · rintro ⟨hq, hne⟩
    obtain ⟨j, hjl, rfl⟩ := List.getElem_of_mem hq
    exact ⟨j, fun e => hne (by subst e; rfl), List.getElem?_eq_getElem hjl⟩

/-- What settling does to a peer: it keeps its view, none that can be delivered waits, known only grows, by as many as the answer says. -/
theorem settle_ok {N : Nat} {H : List Ope} (h : HistOk H) (hg : InGroup N H) : ∀ (f : Nat) (s : Pr), s.held.length ≤ f → PeerIn N H s →
    PeerIn N H (settle f s).1 ∧ (∀ q ∈ (settle f s).1.held, (settle f s).1.can q = false) ∧ (∀ q ∈ (settle f s).1.held, q ∈ s.held) ∧ (∀ j, s.k j ≤ (settle f s).1.k j) ∧ (settle f s).1.known.sum = s.known.sum + (settle f s).2 ∧ (settle f s).1.me = s.me ∧
      (∀ q ∈ s.held, q ∈ (settle f s).1.held ∨ q.num ≤ (settle f s).1.k q.peer) := by
  intro f
  induction f with
  | zero =>
    intro s hf p
    have : s.held = [] := List.length_eq_zero_iff.1 (by omega)
    refine ⟨p, ?_, fun q hq => hq, fun j => Nat.le_refl _, rfl, rfl, fun q hq => Or.inl hq⟩
    intro q hq
    unfold settle at hq
    rw [this] at hq; cases hq
  | succ f ih =>
    intro s hf p
    unfold settle
    cases hb : s.best with
    | none => exact ⟨p, best_none hb, fun q hq => hq, fun j => Nat.le_refl _, rfl, rfl, fun q hq => Or.inl hq⟩
    | some x =>
      obtain ⟨i, o⟩ := x
      simp only []
      obtain ⟨hi, hc⟩ := best_some hb
      have ho : o ∈ H := p.held o (List.mem_of_getElem? hi)
      have hlt : i < s.held.length := (List.getElem?_eq_some_iff.1 hi).1
      have p1 : PeerIn N H ({ s with held := s.held.eraseIdx i } : Pr) := ⟨p.len, p.me, p.view, p.own, p.clock, fun q hq => p.held q (List.mem_of_mem_eraseIdx hq), p.once.sublist (List.eraseIdx_sublist ..), fun q hq => p.late q (List.mem_of_mem_eraseIdx hq), p.log⟩
      obtain ⟨p2, hk⟩ := p1.apply h hg ho (fun hm => ((mem_eraseIdx_ne p.once hi).1 hm).2 rfl) hc
      have hlen : (({ s with held := s.held.eraseIdx i } : Pr).apply o).held.length ≤ f := by
        show (s.held.eraseIdx i).length ≤ f
        rw [List.length_eraseIdx_of_lt hlt]; omega
      obtain ⟨q1, q2, q3, q4, q5, q6, q7⟩ := ih _ hlen p2
      have hkb : ∀ j, s.k j ≤ bump s.k o.peer j := fun j => by unfold bump; split <;> omega
      refine ⟨q1, q2, fun q hq => List.mem_of_mem_eraseIdx (q3 q hq), fun j => Nat.le_trans (hkb j) (by have := q4 j; rw [hk] at this; exact this), ?_, q6, ?_⟩
      · rw [q5]
        have hp : o.peer < s.known.length := by rw [p.len]; exact (hg o ho).1
        have : (({ s with held := s.held.eraseIdx i } : Pr).apply o).known.sum = s.known.sum + 1 := by
          show (s.known.set o.peer (s.k o.peer + 1)).sum = _
          have key : ∀ (l : List Nat) (n : Nat), n < l.length → (l.set n (l.getD n 0 + 1)).sum = l.sum + 1 := by
            intro l
            induction l with
            | nil => intro n hn; simp at hn
            | cons a l ih =>
              intro n hn
              cases n with
              | zero => simp; omega
              | succ n =>
                simp only [List.set_cons_succ, List.sum_cons, List.getD_cons_succ]
                rw [ih n (by simpa using hn)]; omega
          exact key s.known o.peer hp
        rw [this]; omega
      · intro q hq
        by_cases hqo : q = o
        · subst hqo
          right
          have h1 := q4 q.peer
          rw [hk] at h1
          have h2 := ((can_iff s q).1 hc).1
          have h3 : bump ({ s with held := s.held.eraseIdx i } : Pr).k q.peer q.peer = s.k q.peer + 1 := by unfold bump; rw [if_pos rfl]; rfl
          rw [h3] at h1
          rw [h2]; exact h1
        · exact q7 q ((mem_eraseIdx_ne p.once hi).2 ⟨hq, hqo⟩)

/-- What P7 says of a packet that somebody of the group has made. -/
structure OneOk (N : Nat) (H : List Ope) (s : Pr) (o : Ope) (t : Pr) (n : Nat) (err : Int) : Prop where
  ok : PeerOk N H t
  me : t.me = s.me
  which : err = 0 ∨ (err = 5 ∧ n = 0 ∧ t = s)
  grow : ∀ j, s.k j ≤ t.k j
  sum : t.known.sum = s.known.sum + n
  old : o.num ≤ s.k o.peer → n = 0 ∧ err = 0 ∧ t = s
  came : s.can o = true → o.num ≤ t.k o.peer

theorem Pr.sum_apply {N : Nat} {H : List Ope} {s : Pr} (hg : InGroup N H) (p : PeerIn N H s) {o : Ope} (ho : o ∈ H) : (s.apply o).known.sum = s.known.sum + 1 := by
  have hp : o.peer < s.known.length := by rw [p.len]; exact (hg o ho).1
  show (s.known.set o.peer (s.k o.peer + 1)).sum = _
  have key : ∀ (l : List Nat) (n : Nat), n < l.length → (l.set n (l.getD n 0 + 1)).sum = l.sum + 1 := by
    intro l
    induction l with
    | nil => intro n hn; simp at hn
    | cons a l ih =>
      intro n hn
      cases n with
      | zero => simp; omega
      | succ n =>
        simp only [List.set_cons_succ, List.sum_cons, List.getD_cons_succ]
        rw [ih n (by simpa using hn)]; omega
  exact key s.known o.peer hp

theorem deliver_ok {N : Nat} {H : List Ope} {s : Pr} (h : HistOk H) (hg : InGroup N H) (p : PeerIn N H s) {o : Ope} (ho : o ∈ H) (hnh : o ∉ s.held) (hc : s.can o = true) :
    PeerOk N H (s.deliver o).1 ∧ (s.deliver o).1.me = s.me ∧ (∀ j, s.k j ≤ (s.deliver o).1.k j) ∧ (s.deliver o).1.known.sum = s.known.sum + (s.deliver o).2 ∧ o.num ≤ (s.deliver o).1.k o.peer := by
  obtain ⟨p1, hk⟩ := p.apply h hg ho hnh hc
  obtain ⟨q1, q2, q3, q4, q5, q6, q7⟩ := settle_ok h hg s.held.length (s.apply o) (Nat.le_refl _) p1
  have hs := Pr.sum_apply hg p ho
  have h2 := ((can_iff s o).1 hc).1
  rw [hk] at q4
  refine ⟨⟨q1, q2⟩, q6, fun j => Nat.le_trans (by unfold bump; split <;> omega) (q4 j), ?_, ?_⟩
  · show (settle s.held.length (s.apply o)).1.known.sum = s.known.sum + ((settle s.held.length (s.apply o)).2 + 1)
    rw [q5, hs]; omega
  · refine Nat.le_trans ?_ (q4 o.peer)
    unfold bump
    rw [if_pos rfl]; omega

theorem one_ok {N : Nat} {H : List Ope} {s : Pr} (h : HistOk H) (hg : InGroup N H) (p : PeerOk N H s) {o : Ope} (ho : o ∈ H) : OneOk N H s o (s.one o).1 (s.one o).2.1 (s.one o).2.2 := by
  have hself : OneOk N H s o s 0 0 → True := fun _ => trivial
  have hr := h.range o ho
  unfold Pr.one
  by_cases h1 : o.peer = s.me ∧ s.k s.me < o.num
  · exfalso
    have := p.1.own
    rw [← h1.1] at this h1
    omega
  · rw [if_neg h1]
    by_cases h2 : o.num ≤ s.k o.peer ∨ ∃ q ∈ s.held, q.peer = o.peer ∧ q.num = o.num
    · rw [if_pos h2]
      refine ⟨p, rfl, Or.inl rfl, fun j => Nat.le_refl _, rfl, fun _ => ⟨rfl, rfl, rfl⟩, fun hc => ?_⟩
      rcases h2 with h2 | ⟨q, hq, h3, h4⟩
      · exact h2
      · have : q = o := h.inj q (p.1.held q hq) o ho h3 (Or.inl h4)
        subst this
        rw [p.2 q hq] at hc; cases hc
    · rw [if_neg h2]
      have hnh : o ∉ s.held := fun hm => h2 (Or.inr ⟨o, hm, rfl, rfl⟩)
      have hold : ¬ o.num ≤ s.k o.peer := fun hm => h2 (Or.inl hm)
      by_cases h3 : s.can o = true
      · rw [if_pos h3]
        obtain ⟨d1, d2, d3, d4, d5⟩ := deliver_ok h hg p.1 ho hnh h3
        exact ⟨d1, d2, Or.inl rfl, d3, d4, fun hh => absurd hh hold, fun _ => d5⟩
      · rw [if_neg h3]
        by_cases h4 : 16 ≤ s.held.length
        · rw [if_pos h4]
          exact ⟨p, rfl, Or.inr ⟨rfl, rfl, rfl⟩, fun j => Nat.le_refl _, rfl, fun hh => absurd hh hold, fun hh => absurd hh h3⟩
        · rw [if_neg h4]
          refine ⟨⟨⟨p.1.len, p.1.me, p.1.view, p.1.own, p.1.clock, ?_, ?_, ?_, p.1.log⟩, ?_⟩, rfl, Or.inl rfl, fun j => Nat.le_refl _, rfl, fun hh => absurd hh hold, fun hh => absurd hh h3⟩
          · intro q hq
            rcases List.mem_append.1 hq with hq | hq
            · exact p.1.held q hq
            · rw [List.mem_singleton.1 hq]; exact ho
          · show (s.held ++ [o]).Nodup
            rw [List.nodup_append]
            refine ⟨p.1.once, by simp, fun a ha b hb => ?_⟩
            rw [List.mem_singleton.1 hb]
            intro e; subst e; exact hnh ha
          · intro q hq
            rcases List.mem_append.1 hq with hq | hq
            · exact p.1.late q hq
            · rw [List.mem_singleton.1 hq]; show s.k o.peer < o.num; omega
          · intro q hq
            rcases List.mem_append.1 hq with hq | hq
            · exact p.2 q hq
            · rw [List.mem_singleton.1 hq]
              show s.can o = false
              simpa using h3

/-- Somebody else has made one more. -/
theorem PeerOk.more {N : Nat} {H : List Ope} {s : Pr} {o : Ope} (p : PeerOk N H s) (h : HistOk (o :: H)) (hne : o.peer ≠ s.me) : PeerOk N (o :: H) s := by
  have hnum : ¬ o.num ≤ s.k o.peer := by
    match h with
    | ⟨h, num, own, made, whole, clock, pos, name⟩ => have := p.1.view.le o.peer; omega
  refine ⟨⟨p.1.len, p.1.me, p.1.view.more h, ?_, ?_, fun q hq => by simp [p.1.held q hq], p.1.once, p.1.late, p.1.log.more (fun q hq => by simp [hq])⟩, p.2⟩
  · rw [p.1.own]; simp only [cnt]; rw [if_neg hne]; omega
  · intro q hq hk
    rcases List.mem_cons.1 hq with rfl | hq
    · exact absurd hk hnum
    · exact p.1.clock q hq hk

/-- The operation that a peer makes: P5, P6. -/
def Pr.makes (s : Pr) (ins : Bool) (t : Nm) (char : Nat) : Ope := ⟨ins, s.me, s.k s.me + 1, s.clock + 1, s.known, t.1, t.2, char⟩

theorem makes_hist {N : Nat} {H : List Ope} {s : Pr} (h : HistOk H) (p : PeerOk N H s) (ins : Bool) (t : Nm) (char : Nat) (ht : (ins = true ∧ t = (0, 0)) ∨ ∃ e ∈ s.row, nm e = t) : HistOk (s.makes ins t char :: H) := by
  have hsn : ∀ j, sn (s.makes ins t char) j = s.k j := fun j => rfl
  refine HistOk.cons h ?_ ?_ ?_ ?_ ?_ ?_ ?_
  · show s.k s.me + 1 = cnt H s.me + 1
    rw [p.1.own]
  · show sn (s.makes ins t char) s.me = cnt H s.me
    rw [hsn, p.1.own]
  · intro j; rw [hsn]; exact p.1.view.le j
  · intro q hq hk j; rw [hsn] at hk ⊢; exact p.1.view.causal q hq hk j
  · intro q hq hk
    rw [hsn] at hk
    have := p.1.clock q hq hk
    show q.clock < s.clock + 1
    omega
  · show 0 < s.clock + 1
    omega
  · rcases ht with ⟨h1, h2⟩ | ⟨e, he, h2⟩
    · exact Or.inl ⟨h1, h2⟩
    · obtain ⟨q, hq, h3, h4, h5, _⟩ := p.1.view.mem e he
      exact Or.inr ⟨q, hq, h3, by rw [hsn]; exact h4, by rw [h5, h2]; rfl⟩

/-- A peer makes an operation and delivers it to itself. -/
theorem write_ok {N : Nat} {H : List Ope} {s : Pr} (h : HistOk H) (hg : InGroup N H) (p : PeerOk N H s) (ins : Bool) (t : Nm) (char : Nat) (ht : (ins = true ∧ t = (0, 0)) ∨ ∃ e ∈ s.row, nm e = t) :
    HistOk (s.makes ins t char :: H) ∧ InGroup N (s.makes ins t char :: H) ∧ PeerOk N (s.makes ins t char :: H) (s.deliver (s.makes ins t char)).1 := by
  obtain ⟨o, ho⟩ : ∃ o, s.makes ins t char = o := ⟨_, rfl⟩
  have hh := makes_hist h p ins t char ht
  have hgg : InGroup N (s.makes ins t char :: H) := by
    intro q hq
    rcases List.mem_cons.1 hq with rfl | hq
    · exact ⟨p.1.me, Nat.le_of_eq p.1.len⟩
    · exact hg q hq
  refine ⟨hh, hgg, ?_⟩
  have hpe : o.peer = s.me := by rw [← ho]; rfl
  have hnum : o.num = s.k s.me + 1 := by rw [← ho]; rfl
  have hsn : ∀ j, sn o j = s.k j := fun j => by rw [← ho]; rfl
  have hcl : o.clock = s.clock + 1 := by rw [← ho]; rfl
  rw [ho] at hh hgg ⊢
  have hk := k_apply s o (by rw [p.1.len, hpe]; exact p.1.me)
  have hom : o ∈ o :: H := by simp
  have hv := p.1.view.more hh
  have hn1 : o.num = s.k o.peer + 1 := by rw [hpe]; exact hnum
  have hseen : ∀ j, sn o j ≤ s.k j := fun j => by rw [hsn]; exact Nat.le_refl _
  have hnh : o ∉ s.held := by
    intro hm
    have h1 := h.range o (p.1.held o hm)
    have h2 := p.1.own
    rw [hpe] at h1; omega
  have p1 : PeerIn N (o :: H) (s.apply o) := by
    refine ⟨?_, p.1.me, ?_, ?_, ?_, fun q hq => by simp [p.1.held q hq], p.1.once, ?_, by rw [hk]; exact (p.1.log.more (fun q hq => by simp [hq])).bump hom hn1⟩
    · show (s.known.set _ _).length = N
      rw [List.length_set]; exact p.1.len
    · rw [hk]
      show View _ _ (if o.ins then _ else _)
      cases hi : o.ins with
      | true => exact hv.ins hh hom hi hn1 hseen (hv.dels hh hom hi hn1)
      | false => exact hv.del hh hom hi hn1 hseen
    · rw [hk]
      show bump s.k o.peer s.me = cnt (o :: H) s.me
      unfold bump
      rw [if_pos hpe.symm, p.1.own]
      simp only [cnt, hpe, if_true]; omega
    · rw [hk]
      intro q hq hqk
      show q.clock ≤ max s.clock o.clock
      rcases (bump_iff hh hom hq hn1).1 hqk with rfl | h1
      · exact Nat.le_max_right _ _
      · rcases List.mem_cons.1 hq with rfl | hq
        · exact Nat.le_max_right _ _
        · exact Nat.le_trans (p.1.clock q hq h1) (Nat.le_max_left _ _)
    · rw [hk]
      intro q hq
      have hq : q ∈ s.held := hq
      have h1 := p.1.late q hq
      by_cases hle : q.num ≤ bump s.k o.peer q.peer
      · rcases (bump_iff hh hom (by simp [p.1.held q hq]) hn1).1 hle with rfl | h2
        · exact absurd hq hnh
        · omega
      · omega
  obtain ⟨q1, q2, _⟩ := settle_ok hh hgg s.held.length (s.apply o) (Nat.le_refl _) p1
  exact ⟨q1, q2⟩

end Go.Chorus

/- What comes by rising clocks is delivered as it comes; of no program. -/
set_option linter.unusedVariables false
set_option linter.unusedSimpArgs false
namespace Go.Chorus

theorem HistOk.there {H : List Ope} (h : HistOk H) (p n : Nat) (h1 : 1 ≤ n) (h2 : n ≤ cnt H p) : ∃ q ∈ H, q.peer = p ∧ q.num = n := by
  induction h using HistOk.ind with
  | nil => simp only [cnt] at h2; omega
  | @cons o H h num own made whole clock pos name ih =>
    simp only [cnt] at h2
    by_cases hp : o.peer = p
    · rw [if_pos hp] at h2
      by_cases hn : n = cnt H p + 1
      · exact ⟨o, by simp, hp, by rw [num, hp, hn]⟩
      · obtain ⟨q, hq, hh⟩ := ih (by omega)
        exact ⟨q, by simp [hq], hh⟩
    · rw [if_neg hp] at h2
      obtain ⟨q, hq, hh⟩ := ih (by omega)
      exact ⟨q, by simp [hq], hh⟩

/-- P7: one after the other; at the first error the call ends. -/
def recvAll : Pr → List Ope → Pr × Nat × Int
  | s, [] => (s, 0, 0)
  | s, o :: r =>
    if (s.one o).2.2 ≠ 0 then s.one o
    else ((recvAll (s.one o).1 r).1, (s.one o).2.1 + (recvAll (s.one o).1 r).2.1, (recvAll (s.one o).1 r).2.2)

/-- What is received by rising clocks, nothing left out, is delivered as it comes. -/
theorem recv_rising {N : Nat} {H : List Ope} (h : HistOk H) (hg : InGroup N H) : ∀ (L : List Ope) (s : Pr), PeerOk N H s → (∀ x ∈ L, x ∈ H) → L.Pairwise (fun a b => a.clock ≤ b.clock) →
    (∀ x ∈ L, ∀ q ∈ H, q.num ≤ sn x q.peer → q.num ≤ s.k q.peer ∨ q ∈ L) →
    PeerOk N H (recvAll s L).1 ∧ (recvAll s L).2.2 = 0 ∧ (recvAll s L).1.me = s.me ∧ (∀ j, s.k j ≤ (recvAll s L).1.k j) ∧ (recvAll s L).1.known.sum = s.known.sum + (recvAll s L).2.1 ∧ ∀ x ∈ L, x.num ≤ (recvAll s L).1.k x.peer := by
  intro L
  induction L with
  | nil => intro s p _ _ _; exact ⟨p, rfl, rfl, fun j => Nat.le_refl _, rfl, fun x hx => by cases hx⟩
  | cons x r ih =>
    intro s p hL hs hc
    have hx : x ∈ H := hL x (by simp)
    obtain ⟨hs1, hs2⟩ := List.pairwise_cons.1 hs
    have ok := one_ok h hg p hx
    have hof := h.of x hx
    -- all that its maker knew is known here
    have hseen : ∀ q ∈ H, q.num ≤ sn x q.peer → q.num ≤ s.k q.peer := by
      intro q hq hqs
      rcases hc x (by simp) q hq hqs with h1 | h1
      · exact h1
      · exfalso
        have hlt := (hof.2.2.2 q hq hqs).2
        rcases List.mem_cons.1 h1 with rfl | h1
        · omega
        · have := hs1 q h1; omega
    have hle : ∀ j, sn x j ≤ s.k j := by
      intro j
      by_cases h0 : sn x j = 0
      · omega
      · obtain ⟨q, hq, hp, hn⟩ := h.there j (sn x j) (by omega) (hof.2.1 j)
        have := hseen q hq (by rw [hp, hn]; exact Nat.le_refl _)
        rw [hp, hn] at this; exact this
    -- it is delivered, or was
    have hcame : x.num ≤ (s.one x).1.k x.peer ∧ (s.one x).2.2 = 0 := by
      by_cases hd : x.num ≤ s.k x.peer
      · obtain ⟨h1, h2, h3⟩ := ok.old hd
        exact ⟨by rw [h3]; exact hd, h2⟩
      · have hcan : s.can x = true := (can_iff s x).2 ⟨by have := hle x.peer; have := hof.2.2.1; omega, fun j _ => hle j⟩
        refine ⟨ok.came hcan, ?_⟩
        rcases ok.which with h1 | ⟨_, _, h1⟩
        · exact h1
        · exfalso
          have := ok.came hcan
          rw [h1] at this; exact hd this
    have hgrow := ok.grow
    obtain ⟨i1, i2, i3, i4, i5, i6⟩ := ih (s.one x).1 ok.ok (fun y hy => hL y (by simp [hy])) hs2 (by
      intro y hy q hq hqs
      rcases hc y (by simp [hy]) q hq hqs with h1 | h1
      · exact Or.inl (Nat.le_trans h1 (hgrow _))
      · rcases List.mem_cons.1 h1 with rfl | h1
        · exact Or.inl hcame.1
        · exact Or.inr h1)
    have e : recvAll s (x :: r) = ((recvAll (s.one x).1 r).1, (s.one x).2.1 + (recvAll (s.one x).1 r).2.1, (recvAll (s.one x).1 r).2.2) := by
      show (if (s.one x).2.2 ≠ 0 then _ else _) = _
      rw [if_neg (by rw [hcame.2]; simp)]
    rw [e]
    refine ⟨i1, i2, i3.trans ok.me, fun j => Nat.le_trans (hgrow j) (i4 j), ?_, ?_⟩
    · show (recvAll (s.one x).1 r).1.known.sum = s.known.sum + ((s.one x).2.1 + (recvAll (s.one x).1 r).2.1)
      rw [i5, ok.sum]; omega
    · intro y hy
      rcases List.mem_cons.1 hy with rfl | hy
      · exact Nat.le_trans hcame.1 (i4 _)
      · exact i6 y hy

/-- What one peer has and another one lacks (P10): nothing is left out. -/
theorem rest_closed {N : Nat} {H : List Ope} {a b : Pr} (pa : PeerOk N H a) (pb : PeerOk N H b) (L : List Ope) (hL : ∀ x, x ∈ L ↔ x ∈ H ∧ x.num ≤ b.k x.peer ∧ a.k x.peer < x.num) :
    ∀ x ∈ L, ∀ q ∈ H, q.num ≤ sn x q.peer → q.num ≤ a.k q.peer ∨ q ∈ L := by
  intro x hx q hq hqs
  obtain ⟨h1, h2, h3⟩ := (hL x).1 hx
  by_cases hk : q.num ≤ a.k q.peer
  · exact Or.inl hk
  · exact Or.inr ((hL q).2 ⟨hq, Nat.le_trans hqs (pb.1.view.causal x h1 h2 q.peer), by omega⟩)

end Go.Chorus

/- What waits, in the peers' order: the first that can be delivered is that of the least peer; of no program. -/
set_option linter.unusedVariables false
set_option linter.unusedSimpArgs false
namespace Go.Chorus

/-- The first that can be delivered, from place i on. -/
def firstGo (s : Pr) : List Ope → Nat → Option (Nat × Ope)
  | [], _ => none
  | o :: r, i => if s.can o = true then some (i, o) else firstGo s r (i + 1)

def Pr.firstCan (s : Pr) : Option (Nat × Ope) := firstGo s s.held 0

def settleF : Nat → Pr → Pr × Nat
  | 0, s => (s, 0)
  | f + 1, s =>
    match s.firstCan with
    | none => (s, 0)
    | some (i, o) => let t := settleF f (({ s with held := s.held.eraseIdx i } : Pr).apply o); (t.1, t.2 + 1)

def Pr.deliverF (s : Pr) (o : Ope) : Pr × Nat := let t := settleF s.held.length (s.apply o); (t.1, t.2 + 1)

/-- Behind all of those peers and of lesser ones. -/
def placeW (p : Nat) : List Ope → Nat → Nat
  | [], k => k
  | q :: r, k => if q.peer ≤ p then placeW p r (k + 1) else k

def waitIn (l : List Ope) (o : Ope) : List Ope := l.take (placeW o.peer l 0) ++ o :: l.drop (placeW o.peer l 0)

def Pr.oneF (s : Pr) (o : Ope) : Pr × Nat × Int :=
  if o.peer = s.me ∧ s.k s.me < o.num then (s, 0, 6)
  else if o.num ≤ s.k o.peer ∨ (∃ q ∈ s.held, q.peer = o.peer ∧ q.num = o.num) then (s, 0, 0)
  else if s.can o then ((s.deliverF o).1, (s.deliverF o).2, 0)
  else if 16 ≤ s.held.length then (s, 0, 5)
  else ({ s with held := waitIn s.held o }, 0, 0)

/-- In the peers' order, and each once. -/
def InRow (l : List Ope) : Prop := l.Pairwise fun a b => a.peer ≤ b.peer ∧ ¬ (a.peer = b.peer ∧ a.num = b.num)

theorem inRow_inj {l : List Ope} (h : InRow l) {a b : Ope} (ha : a ∈ l) (hb : b ∈ l) (h1 : a.peer = b.peer) (h2 : a.num = b.num) : a = b := by
  induction l with
  | nil => cases ha
  | cons x r ih =>
    obtain ⟨hx, hr⟩ := List.pairwise_cons.1 h
    rcases List.mem_cons.1 ha with e1 | ha1
    · rcases List.mem_cons.1 hb with e2 | hb1
      · rw [e1, e2]
      · subst e1; exact absurd ⟨h1, h2⟩ (hx b hb1).2
    · rcases List.mem_cons.1 hb with e2 | hb1
      · subst e2; exact absurd ⟨h1.symm, h2.symm⟩ (hx a ha1).2
      · exact ih hr ha1 hb1

/-- The same but for the order in which they wait. -/
structure Alk (s t : Pr) : Prop where
  me : s.me = t.me
  clock : s.clock = t.clock
  known : s.known = t.known
  row : s.row = t.row
  held : s.held.Perm t.held
  log : s.log = t.log

theorem Alk.refl (s : Pr) : Alk s s := ⟨rfl, rfl, rfl, rfl, List.Perm.refl _, rfl⟩

theorem Alk.k {s t : Pr} (h : Alk s t) (j : Nat) : s.k j = t.k j := by unfold Pr.k; rw [h.known]

theorem Alk.can {s t : Pr} (h : Alk s t) (o : Ope) : s.can o = t.can o := by unfold Pr.can Pr.k; rw [h.known]

theorem firstGo_spec (s : Pr) (l : List Ope) (hl : InRow l) (i : Nat) :
    (∀ x, firstGo s l i = some x → i ≤ x.1 ∧ l[x.1 - i]? = some x.2 ∧ s.can x.2 = true ∧ ∀ q ∈ l, s.can q = true → x.2.peer ≤ q.peer) ∧ (firstGo s l i = none → ∀ q ∈ l, s.can q = false) := by
  induction l generalizing i with
  | nil => exact ⟨fun x hx => (by cases hx), fun _ q hq => (by cases hq)⟩
  | cons o r ih =>
    obtain ⟨hx, hr⟩ := List.pairwise_cons.1 hl
    unfold firstGo
    by_cases hc : s.can o = true
    · rw [if_pos hc]
      refine ⟨fun x hx' => ?_, fun h => by cases h⟩
      cases hx'
      refine ⟨Nat.le_refl _, by simp, hc, fun q hq _ => ?_⟩
      rcases List.mem_cons.1 hq with rfl | hq
      · exact Nat.le_refl _
      · exact (hx q hq).1
    · rw [if_neg hc]
      obtain ⟨h1, h2⟩ := ih hr (i + 1)
      refine ⟨fun x hx' => ?_, fun hn q hq => ?_⟩
      · obtain ⟨a, b, c, d⟩ := h1 x hx'
        refine ⟨by omega, ?_, c, fun q hq hqc => ?_⟩
        · have : x.1 - i = (x.1 - (i + 1)) + 1 := by omega
          rw [this, List.getElem?_cons_succ]; exact b
        · rcases List.mem_cons.1 hq with rfl | hq
          · exact absurd hqc hc
          · exact d q hq hqc
      · rcases List.mem_cons.1 hq with rfl | hq
        · simpa using hc
        · exact h2 hn q hq

theorem bestGo_least (s : Pr) (l : List Ope) (i : Nat) (b : Option (Nat × Ope)) :
    ∀ x, bestGo s l i b = some x → (∀ q ∈ l, s.can q = true → x.2.peer ≤ q.peer) ∧ (∀ y, b = some y → x.2.peer ≤ y.2.peer) := by
  induction l generalizing i b with
  | nil => intro x hx; exact ⟨fun q hq => (by cases hq), fun y hy => by unfold bestGo at hx; rw [hx] at hy; cases hy; exact Nat.le_refl _⟩
  | cons o r ih =>
    intro x hx
    unfold bestGo at hx
    by_cases hc : s.can o = true ∧ (∀ x, b = some x → o.peer < x.2.peer)
    · rw [if_pos hc] at hx
      obtain ⟨h1, h2⟩ := ih _ _ x hx
      have h3 := h2 _ rfl
      refine ⟨fun q hq hqc => ?_, fun y hy => Nat.le_trans h3 (Nat.le_of_lt (hc.2 y hy))⟩
      rcases List.mem_cons.1 hq with rfl | hq
      · exact h3
      · exact h1 q hq hqc
    · rw [if_neg hc] at hx
      obtain ⟨h1, h2⟩ := ih _ _ x hx
      refine ⟨fun q hq hqc => ?_, h2⟩
      rcases List.mem_cons.1 hq with rfl | hq
      · by_cases hb : ∀ x, b = some x → q.peer < x.2.peer
        · exact absurd ⟨hqc, hb⟩ hc
        · simp only [Classical.not_forall] at hb
          obtain ⟨y, hy, hlt⟩ := hb
          exact Nat.le_trans (h2 y hy) (by omega)
      · exact h1 q hq hqc

/-- Both ways of search find the same. -/
theorem first_best {s t : Pr} (h : Alk s t) (hr : InRow s.held) : (s.firstCan = none → t.best = none) ∧ (∀ i o, s.firstCan = some (i, o) → s.held[i]? = some o ∧ s.can o = true ∧ ∃ j, t.best = some (j, o) ∧ t.held[j]? = some o) := by
  obtain ⟨f1, f2⟩ := firstGo_spec s s.held hr 0
  refine ⟨fun hn => ?_, fun i o ho => ?_⟩
  · cases hb : t.best with
    | none => rfl
    | some x =>
      obtain ⟨j, o⟩ := x
      obtain ⟨hj, hc⟩ := best_some hb
      have := f2 hn o (h.held.mem_iff.2 (List.mem_of_getElem? hj))
      rw [h.can, hc] at this; cases this
  · obtain ⟨_, b, c, d⟩ := f1 (i, o) ho
    simp only [Nat.sub_zero] at b
    refine ⟨b, c, ?_⟩
    have hmem : o ∈ t.held := h.held.mem_iff.1 (List.mem_of_getElem? b)
    cases hb : t.best with
    | none =>
      have := best_none hb o hmem
      rw [← h.can] at this
      have c' : s.can o = true := c
      rw [c'] at this; cases this
    | some x =>
      obtain ⟨j, q⟩ := x
      obtain ⟨hj, hc⟩ := best_some hb
      have l1 := (bestGo_least t t.held 0 none (j, q) hb).1 o hmem (by rw [← h.can]; exact c)
      have hq : q ∈ s.held := h.held.mem_iff.2 (List.mem_of_getElem? hj)
      have l2 := d q hq (by rw [h.can]; exact hc)
      have hp : o.peer = q.peer := Nat.le_antisymm l2 l1
      have n1 := ((can_iff s o).1 c).1
      have n2 := ((can_iff t q).1 hc).1
      have : o = q := inRow_inj hr (List.mem_of_getElem? b) hq hp (by rw [n1, n2, hp, h.k])
      subst this
      exact ⟨j, rfl, hj⟩

theorem perm_eraseIdx {α : Type} {l m : List α} (h : l.Perm m) {i j : Nat} {o : α} (hi : l[i]? = some o) (hj : m[j]? = some o) : (l.eraseIdx i).Perm (m.eraseIdx j) := by
  have key : ∀ (l : List α) (i : Nat), l[i]? = some o → (o :: l.eraseIdx i).Perm l := by
    intro l
    induction l with
    | nil => intro i hi; simp at hi
    | cons x r ih =>
      intro i hi
      cases i with
      | zero => simp at hi; subst hi; exact List.Perm.refl _
      | succ i =>
        simp only [List.eraseIdx_cons_succ]
        exact (List.Perm.swap x o _).trans ((ih i (by simpa using hi)).cons x)
  exact List.Perm.cons_inv ((key l i hi).trans (h.trans (key m j hj).symm))

theorem settleF_sim : ∀ (f : Nat) (s t : Pr), Alk s t → InRow s.held → Alk (settleF f s).1 (settle f t).1 ∧ InRow (settleF f s).1.held ∧ (settleF f s).2 = (settle f t).2 := by
  intro f
  induction f with
  | zero => intro s t h hr; exact ⟨h, hr, rfl⟩
  | succ f ih =>
    intro s t h hr
    obtain ⟨f1, f2⟩ := first_best h hr
    unfold settleF settle
    cases hf : s.firstCan with
    | none => rw [f1 hf]; exact ⟨h, hr, rfl⟩
    | some x =>
      obtain ⟨i, o⟩ := x
      obtain ⟨hi, hc, j, hb, hj⟩ := f2 i o hf
      rw [hb]
      simp only []
      have hA : Alk (({ s with held := s.held.eraseIdx i } : Pr).apply o) (({ t with held := t.held.eraseIdx j } : Pr).apply o) := by
        refine ⟨h.me, ?_, ?_, ?_, perm_eraseIdx h.held hi hj, by show s.log.modify _ _ = t.log.modify _ _; rw [h.log]⟩
        · show max s.clock o.clock = max t.clock o.clock
          rw [h.clock]
        · show s.known.set o.peer (s.k o.peer + 1) = t.known.set o.peer (t.k o.peer + 1)
          rw [h.known, h.k]
        · show (if o.ins then insertEl s.row _ _ _ _ _ else killEl s.row _ _) = _
          rw [h.row]; rfl
      have hR : InRow (({ s with held := s.held.eraseIdx i } : Pr).apply o).held := List.Pairwise.sublist (List.eraseIdx_sublist ..) hr
      obtain ⟨a, b, c⟩ := ih _ _ hA hR
      exact ⟨a, b, by rw [c]⟩

theorem placeW_spec (p : Nat) (l : List Ope) (k : Nat) : k ≤ placeW p l k ∧ placeW p l k ≤ k + l.length ∧ (∀ q ∈ l.take (placeW p l k - k), q.peer ≤ p) ∧ (∀ q, (l.drop (placeW p l k - k)).head? = some q → p < q.peer) := by
  induction l generalizing k with
  | nil => exact ⟨Nat.le_refl _, Nat.le_add_right _ _, fun q hq => by simp at hq, fun q hq => by simp at hq⟩
  | cons x r ih =>
    unfold placeW
    by_cases h : x.peer ≤ p
    · rw [if_pos h]
      obtain ⟨a, b, c, d⟩ := ih (k + 1)
      have e : placeW p r (k + 1) - k = (placeW p r (k + 1) - (k + 1)) + 1 := by omega
      refine ⟨by omega, by simp; omega, fun q hq => ?_, fun q hq => ?_⟩
      · rw [e, List.take_succ_cons] at hq
        rcases List.mem_cons.1 hq with rfl | hq
        · exact h
        · exact c q hq
      · rw [e, List.drop_succ_cons] at hq
        exact d q hq
    · rw [if_neg h]
      refine ⟨Nat.le_refl _, Nat.le_add_right _ _, fun q hq => by simp at hq, fun q hq => ?_⟩
      simp at hq; subst hq; omega

theorem waitIn_inRow {l : List Ope} {o : Ope} (h : InRow l) (hn : ¬ ∃ q ∈ l, q.peer = o.peer ∧ q.num = o.num) : InRow (waitIn l o) := by
  obtain ⟨_, _, c, d⟩ := placeW_spec o.peer l 0
  simp only [Nat.sub_zero] at c d
  unfold waitIn
  generalize placeW o.peer l 0 = k at c d
  have hpw : InRow (l.take k ++ l.drop k) := by rw [List.take_append_drop]; exact h
  obtain ⟨h1, h2, h3⟩ := List.pairwise_append.1 hpw
  have hd : ∀ q ∈ l.drop k, o.peer < q.peer := by
    cases hl : l.drop k with
    | nil => intro q hq; cases hq
    | cons x r =>
      rw [hl] at h2
      obtain ⟨hx, _⟩ := List.pairwise_cons.1 h2
      have h0 := d x (by rw [hl]; rfl)
      intro q hq
      rcases List.mem_cons.1 hq with rfl | hq
      · exact h0
      · have := (hx q hq).1; omega
  refine List.pairwise_append.2 ⟨h1, List.pairwise_cons.2 ⟨fun q hq => ⟨Nat.le_of_lt (hd q hq), fun e => by have := hd q hq; omega⟩, h2⟩, fun a ha b hb => ?_⟩
  rcases List.mem_cons.1 hb with rfl | hb
  · exact ⟨c a ha, fun e => hn ⟨a, List.mem_of_mem_take ha, e⟩⟩
  · exact h3 a ha b hb

theorem waitIn_perm (l : List Ope) (o : Ope) : (waitIn l o).Perm (l ++ [o]) := by
  unfold waitIn
  refine List.perm_middle.trans ?_
  rw [List.take_append_drop]
  exact (List.perm_append_singleton o l).symm

/-- The order in which they wait is told by nothing. -/
theorem oneF_sim {s t : Pr} (h : Alk s t) (hr : InRow s.held) (o : Ope) : Alk (s.oneF o).1 (t.one o).1 ∧ InRow (s.oneF o).1.held ∧ (s.oneF o).2 = (t.one o).2 := by
  unfold Pr.oneF Pr.one
  have e1 : (o.peer = s.me ∧ s.k s.me < o.num) ↔ (o.peer = t.me ∧ t.k t.me < o.num) := by rw [h.k, h.me]
  have e2 : (o.num ≤ s.k o.peer ∨ (∃ q ∈ s.held, q.peer = o.peer ∧ q.num = o.num)) ↔ (o.num ≤ t.k o.peer ∨ (∃ q ∈ t.held, q.peer = o.peer ∧ q.num = o.num)) := by
    rw [h.k]
    have : (∃ q ∈ s.held, q.peer = o.peer ∧ q.num = o.num) ↔ (∃ q ∈ t.held, q.peer = o.peer ∧ q.num = o.num) :=
      ⟨fun ⟨q, a, b⟩ => ⟨q, h.held.mem_iff.1 a, b⟩, fun ⟨q, a, b⟩ => ⟨q, h.held.mem_iff.2 a, b⟩⟩
    rw [this]
  by_cases h1 : o.peer = s.me ∧ s.k s.me < o.num
  · rw [if_pos h1, if_pos (e1.1 h1)]; exact ⟨h, hr, rfl⟩
  · rw [if_neg h1, if_neg (fun hh => h1 (e1.2 hh))]
    by_cases h2 : o.num ≤ s.k o.peer ∨ (∃ q ∈ s.held, q.peer = o.peer ∧ q.num = o.num)
    · rw [if_pos h2, if_pos (e2.1 h2)]; exact ⟨h, hr, rfl⟩
    · rw [if_neg h2, if_neg (fun hh => h2 (e2.2 hh))]
      rw [h.can o]
      by_cases h3 : t.can o = true
      · rw [if_pos h3, if_pos h3]
        have hA : Alk (s.apply o) (t.apply o) := by
          refine ⟨h.me, ?_, ?_, ?_, h.held, by show s.log.modify _ _ = t.log.modify _ _; rw [h.log]⟩
          · show max s.clock o.clock = max t.clock o.clock
            rw [h.clock]
          · show s.known.set o.peer (s.k o.peer + 1) = t.known.set o.peer (t.k o.peer + 1)
            rw [h.known, h.k]
          · show (if o.ins then insertEl s.row _ _ _ _ _ else killEl s.row _ _) = _
            rw [h.row]; rfl
        obtain ⟨a, b, c⟩ := settleF_sim s.held.length _ _ hA hr
        unfold Pr.deliverF Pr.deliver
        rw [← h.held.length_eq]
        exact ⟨a, b, by simp only [c]⟩
      · rw [if_neg h3, if_neg h3, ← h.held.length_eq]
        by_cases h4 : 16 ≤ s.held.length
        · rw [if_pos h4, if_pos h4]; exact ⟨h, hr, rfl⟩
        · rw [if_neg h4, if_neg h4]
          exact ⟨⟨h.me, h.clock, h.known, h.row, (waitIn_perm _ _).trans (h.held.append_right [o]), h.log⟩, waitIn_inRow hr (fun hh => h2 (Or.inr hh)), rfl⟩

theorem Alk.view {N : Nat} {H : List Ope} {s t : Pr} (h : Alk s t) (p : PeerIn N H t) : PeerIn N H s := by
  have hk : s.k = t.k := funext h.k
  exact ⟨by rw [h.known]; exact p.len, by rw [h.me]; exact p.me, by rw [hk, h.row]; exact p.view, by rw [hk, h.me]; exact p.own, by rw [hk, h.clock]; exact p.clock, fun q hq => p.held q (h.held.mem_iff.1 hq), h.held.nodup_iff.2 p.once, fun q hq => by rw [hk]; exact p.late q (h.held.mem_iff.1 hq), by rw [hk, h.log]; exact p.log⟩

theorem Alk.ok {N : Nat} {H : List Ope} {s t : Pr} (h : Alk s t) (p : PeerOk N H t) : PeerOk N H s := ⟨h.view p.1, fun q hq => by rw [h.can]; exact p.2 q (h.held.mem_iff.1 hq)⟩

/-- P7 of a program whose waiting ones stand in the peers' order. -/
theorem oneF_ok {N : Nat} {H : List Ope} {s : Pr} (h : HistOk H) (hg : InGroup N H) (p : PeerOk N H s) (hr : InRow s.held) {o : Ope} (ho : o ∈ H) : OneOk N H s o (s.oneF o).1 (s.oneF o).2.1 (s.oneF o).2.2 ∧ InRow (s.oneF o).1.held := by
  obtain ⟨a, b, c⟩ := oneF_sim (Alk.refl s) hr o
  have q := one_ok h hg p ho
  rw [c]
  have hk : (s.oneF o).1.k = (s.one o).1.k := funext a.k
  refine ⟨⟨a.ok q.ok, by rw [a.me]; exact q.me, ?_, by rw [hk]; exact q.grow, by rw [a.known]; exact q.sum, ?_, by rw [hk]; exact q.came⟩, b⟩
  · rcases q.which with q1 | ⟨q1, q2, q3⟩
    · exact Or.inl q1
    · right
      refine ⟨q1, q2, ?_⟩
      rw [← c] at q1
      unfold Pr.oneF at q1 ⊢
      split at q1
      · cases q1
      · split at q1
        · cases q1
        · split at q1
          · cases q1
          · split at q1
            · rename_i h1 h2 h3 h4
              rw [if_neg h1, if_neg h2, if_neg h3, if_pos h4]
            · cases q1
  · intro hold
    obtain ⟨q1, q2, q3⟩ := q.old hold
    refine ⟨q1, q2, ?_⟩
    have hn : ¬ (o.peer = s.me ∧ s.k s.me < o.num) := fun e => by rw [e.1] at hold; omega
    unfold Pr.oneF
    rw [if_neg hn, if_pos (Or.inl hold)]

theorem deliverF_ok {N : Nat} {H : List Ope} {s : Pr} (h : HistOk H) (hg : InGroup N H) (p : PeerOk N H s) (hr : InRow s.held) (ins : Bool) (t : Nm) (char : Nat) (ht : (ins = true ∧ t = (0, 0)) ∨ ∃ e ∈ s.row, nm e = t) :
    HistOk (s.makes ins t char :: H) ∧ InGroup N (s.makes ins t char :: H) ∧ PeerOk N (s.makes ins t char :: H) (s.deliverF (s.makes ins t char)).1 ∧ InRow (s.deliverF (s.makes ins t char)).1.held := by
  obtain ⟨a, b, c⟩ := write_ok h hg p ins t char ht
  obtain ⟨x, y, z⟩ := settleF_sim s.held.length (s.apply (s.makes ins t char)) _ (Alk.refl _) hr
  exact ⟨a, b, x.ok c, y⟩

end Go.Chorus
