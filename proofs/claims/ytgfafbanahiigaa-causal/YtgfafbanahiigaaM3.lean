/- P8's insertion keeps the tree's order; of no program. -/
import Derived.Test.YtgfafbanahiigaaM2
set_option linter.unusedVariables false
set_option linter.unusedSimpArgs false
namespace Go.Chorus

def nm (e : El) : Nm := (e.clock, e.peer)

theorem isGreater_iff (e : El) (c p : Nat) : isGreater e c p = true ↔ nlt (c, p) (nm e) := by
  unfold isGreater greaterB nlt nm
  by_cases h : (e.clock : Int) = c
  · rw [if_pos h]; simp only [decide_eq_true_eq]; omega
  · rw [if_neg h]; simp only [decide_eq_true_eq]; omega

theorem behindGreater_eq (c p : Nat) (l : List El) (k : Nat) : behindGreater c p l k = k + (l.takeWhile fun e => isGreater e c p).length := by
  induction l generalizing k with
  | nil => rfl
  | cons e r ih =>
    unfold behindGreater
    by_cases h : isGreater e c p = true
    · rw [if_pos h, ih, List.takeWhile_cons_of_pos (by simpa using h)]; simp; omega
    · rw [if_neg h, List.takeWhile_cons_of_neg (by simpa using h)]; rfl

theorem find_absent (c p : Nat) (es : List El) (k : Nat) (h : ∀ e ∈ es, nm e ≠ (c, p)) : findFrom c p es k = -1 := by
  induction es generalizing k with
  | nil => rfl
  | cons e r ih =>
    unfold findFrom
    rw [if_neg (fun hh => h e (by simp) (by unfold nm; simp only [Prod.mk.injEq]; omega))]
    exact ih (k + 1) (fun x hx => h x (by simp [hx]))

theorem find_there (c p : Nat) (A B : List El) (e : El) (k : Nat) (h : ∀ x ∈ A, nm x ≠ (c, p)) (he : nm e = (c, p)) : findFrom c p (A ++ e :: B) k = ((k + A.length : Nat) : Int) := by
  induction A generalizing k with
  | nil =>
    unfold nm at he
    simp only [Prod.mk.injEq] at he
    show (if (e.clock : Int) = c ∧ (e.peer : Int) = p then (k : Int) else findFrom c p B (k + 1)) = _
    rw [if_pos (by omega)]; simp
  | cons x r ih =>
    simp only [List.cons_append]
    unfold findFrom
    rw [if_neg (fun hh => h x (by simp) (by unfold nm; simp only [Prod.mk.injEq]; omega)), ih (k + 1) (fun y hy => h y (by simp [hy]))]
    simp; omega

theorem find_iff (c p : Nat) (es : List El) : 0 ≤ findFrom c p es 0 ↔ ∃ e ∈ es, nm e = (c, p) := by
  constructor
  · intro h
    by_cases hx : ∃ e ∈ es, nm e = (c, p)
    · exact hx
    · have := find_absent c p es 0 (fun e he hn => hx ⟨e, he, hn⟩)
      omega
  · rintro ⟨e, he, hn⟩
    by_cases h : 0 ≤ findFrom c p es 0
    · exact h
    · exfalso
      -- the first of that name
      induction es with
      | nil => cases he
      | cons x r ih =>
        by_cases hx : nm x = (c, p)
        · have := find_there c p [] r x 0 (by simp) hx
          simp at this; rw [this] at h; omega
        · obtain ⟨A, B, e', rfl, hA, he'⟩ : ∃ A B e', r = A ++ e' :: B ∧ (∀ y ∈ A, nm y ≠ (c, p)) ∧ nm e' = (c, p) := by
            have her : e ∈ r := by
              rcases List.mem_cons.1 he with rfl | h1
              · exact absurd hn hx
              · exact h1
            clear ih h he hx
            induction r with
            | nil => cases her
            | cons y r ih =>
              by_cases hy : nm y = (c, p)
              · exact ⟨[], r, y, rfl, by simp, hy⟩
              · rcases List.mem_cons.1 her with rfl | h1
                · exact absurd hn hy
                · obtain ⟨A, B, e', rfl, hA, he'⟩ := ih h1
                  exact ⟨y :: A, B, e', rfl, by intro z hz; rcases List.mem_cons.1 hz with rfl | hz; exact hy; exact hA z hz, he'⟩
          have := find_there c p (x :: A) B e' 0 (by intro z hz; rcases List.mem_cons.1 hz with rfl | hz; exact hx; exact hA z hz) he'
          simp only [List.cons_append] at this
          rw [this] at h; omega

/-- A row whose elements' paths are π's. -/
structure RowOk (π : Nm → List Nm) (es : List El) : Prop where
  last : ∀ e ∈ es, π (nm e) ≠ [] ∧ lastNm (π (nm e)) = nm e
  row : PRow (es.map fun e => π (nm e))

theorem RowOk.names {π : Nm → List Nm} {es : List El} (h : RowOk π es) : (es.map nm).Nodup := by
  have := h.row.sorted
  rw [List.pairwise_map] at this
  rw [List.Nodup, List.pairwise_map]
  refine this.imp ?_
  intro a b hab he
  rw [he] at hab
  exact pbefore_irrefl _ hab

theorem head_dropWhile {α : Type} (f : α → Bool) (l : List α) (t : α) (h : (l.dropWhile f).head? = some t) : f t = false := by
  induction l with
  | nil => simp at h
  | cons x r ih =>
    by_cases hx : f x = true
    · rw [List.dropWhile_cons_of_pos hx] at h; exact ih h
    · rw [List.dropWhile_cons_of_neg hx] at h
      simp only [List.head?_cons, Option.some.injEq] at h
      subst h; simpa using hx

theorem take_while {α : Type} (f : α → Bool) (l : List α) : l.take (l.takeWhile f).length = l.takeWhile f := by
  induction l with
  | nil => rfl
  | cons x r ih =>
    by_cases hx : f x = true
    · rw [List.takeWhile_cons_of_pos hx]; simp [ih]
    · rw [List.takeWhile_cons_of_neg hx]; rfl

theorem drop_while {α : Type} (f : α → Bool) (l : List α) : l.drop (l.takeWhile f).length = l.dropWhile f := by
  induction l with
  | nil => rfl
  | cons x r ih =>
    by_cases hx : f x = true
    · rw [List.takeWhile_cons_of_pos hx, List.dropWhile_cons_of_pos hx]; simp [ih]
    · rw [List.takeWhile_cons_of_neg hx, List.dropWhile_cons_of_neg hx]; rfl

theorem mem_while {α : Type} (f : α → Bool) (l : List α) (x : α) (h : x ∈ l.takeWhile f) : f x = true := by
  induction l with
  | nil => cases h
  | cons y r ih =>
    by_cases hy : f y = true
    · rw [List.takeWhile_cons_of_pos hy] at h
      rcases List.mem_cons.1 h with rfl | h
      · exact hy
      · exact ih h
    · rw [List.takeWhile_cons_of_neg hy] at h; cases h

/-- What insertion does, in pieces: A ends with the one ahead; S are greater; T the rest. -/
theorem insertEl_pieces (es : List El) (c p bc bp : Nat) (ch : Int) (hnew : ∀ e ∈ es, nm e ≠ (c, p)) (hb : (bc = 0 ∧ bp = 0) ∨ ∃ e ∈ es, nm e = (bc, bp)) (hnd : (es.map nm).Nodup) (h0 : ¬ ∃ e ∈ es, nm e = (0, 0)) :
    ∃ A S T, es = A ++ S ++ T ∧ insertEl es c p bc bp ch = A ++ S ++ ⟨c, p, ch, false⟩ :: T ∧ ((bc = 0 ∧ bp = 0 ∧ A = []) ∨ (¬ (bc = 0 ∧ bp = 0) ∧ ∃ A' e, A = A' ++ [e] ∧ nm e = (bc, bp))) ∧
      (∀ x ∈ S, nlt (c, p) (nm x)) ∧ (∀ t, T.head? = some t → ¬ nlt (c, p) (nm t)) := by
  have hf : ¬ 0 ≤ findFrom c p es 0 := by rw [find_absent c p es 0 hnew]; omega
  -- the place behind which it goes
  obtain ⟨A, B, rfl, hk, hok, hA⟩ : ∃ A B, es = A ++ B ∧ (placeOf bc bp es).toNat = A.length ∧ placeOk bc bp es = true ∧ ((bc = 0 ∧ bp = 0 ∧ A = []) ∨ (¬ (bc = 0 ∧ bp = 0) ∧ ∃ A' e, A = A' ++ [e] ∧ nm e = (bc, bp))) := by
    by_cases hz : bc = 0 ∧ bp = 0
    · refine ⟨[], es, rfl, ?_, ?_, Or.inl ⟨hz.1, hz.2, rfl⟩⟩
      · unfold placeOf; rw [if_pos (by omega)]; rfl
      · unfold placeOk; rw [if_pos (by omega)]
    · obtain ⟨e, he, hn⟩ := hb.resolve_left hz
      obtain ⟨A', B, rfl⟩ := List.append_of_mem he
      have hA' : ∀ x ∈ A', nm x ≠ (bc, bp) := by
        intro x hx hxn
        rw [List.map_append, List.map_cons] at hnd
        have := (List.nodup_append.1 hnd).2.2 (nm x) (List.mem_map_of_mem hx) (nm e) (by simp)
        exact this (by rw [hxn, hn])
      have hfe := find_there bc bp A' B e 0 hA' hn
      refine ⟨A' ++ [e], B, by simp, ?_, ?_, Or.inr ⟨hz, A', e, rfl, hn⟩⟩
      · unfold placeOf; rw [if_neg (by omega), hfe]; simp
      · unfold placeOk; rw [if_neg (by omega), hfe]; simp
  refine ⟨A, B.takeWhile fun e => isGreater e c p, B.dropWhile fun e => isGreater e c p, ?_, ?_, hA, ?_, ?_⟩
  · rw [List.append_assoc, List.takeWhile_append_dropWhile]
  · unfold insertEl
    rw [if_neg (by rw [hok]; simp; omega)]
    simp only []
    rw [hk, List.drop_left, behindGreater_eq]
    have e1 : (A ++ B).take (A.length + (B.takeWhile fun e => isGreater e c p).length) = A ++ B.takeWhile fun e => isGreater e c p := by
      rw [List.take_append]
      have : A.length + (B.takeWhile fun e => isGreater e c p).length - A.length = (B.takeWhile fun e => isGreater e c p).length := by omega
      rw [this, List.take_of_length_le (by omega), take_while]
    have e2 : (A ++ B).drop (A.length + (B.takeWhile fun e => isGreater e c p).length) = B.dropWhile fun e => isGreater e c p := by
      rw [← List.drop_drop, List.drop_left, drop_while]
    rw [e1, e2]
  · intro x hx
    exact (isGreater_iff x c p).1 (mem_while (fun e => isGreater e c p) B x hx)
  · intro t ht hg
    have := head_dropWhile _ _ _ ht
    rw [(isGreater_iff t c p).2 hg] at this
    cases this

/-- P8 keeps the order. -/
theorem RowOk.insert {π : Nm → List Nm} {es : List El} (h : RowOk π es) (c p bc bp : Nat) (ch : Int) (hnew : ∀ e ∈ es, nm e ≠ (c, p)) (hb : (bc = 0 ∧ bp = 0) ∨ ∃ e ∈ es, nm e = (bc, bp)) (h0 : ¬ ∃ e ∈ es, nm e = (0, 0))
    (hlt : nlt (bc, bp) (c, p)) (hπ : π (c, p) = (if bc = 0 ∧ bp = 0 then [] else π (bc, bp)) ++ [(c, p)]) :
    RowOk π (insertEl es c p bc bp ch) ∧ ∀ x, x ∈ insertEl es c p bc bp ch ↔ x = ⟨c, p, ch, false⟩ ∨ x ∈ es := by
  obtain ⟨A, S, T, rfl, hi, hA, hS, hT⟩ := insertEl_pieces es c p bc bp ch hnew hb h.names h0
  rw [hi]
  have hmem : ∀ x, x ∈ A ++ S ++ (⟨c, p, ch, false⟩ : El) :: T ↔ x = ⟨c, p, ch, false⟩ ∨ x ∈ A ++ S ++ T := by
    intro x; simp only [List.mem_append, List.mem_cons]; constructor
    · rintro ((h | h) | h | h) <;> simp [h]
    · rintro (h | (h | h) | h) <;> simp [h]
  obtain ⟨P, hP⟩ : ∃ P, P = if bc = 0 ∧ bp = 0 then [] else π (bc, bp) := ⟨_, rfl⟩
  rw [← hP] at hπ
  have hPA : (P = [] ∧ A = []) ∨ (∃ A' e, P ≠ [] ∧ A = A' ++ [e] ∧ π (nm e) = P ∧ nm e = (bc, bp)) := by
    rcases hA with ⟨h1, h2, h3⟩ | ⟨h1, A', e, h2, h3⟩
    · left; exact ⟨by rw [hP, if_pos ⟨h1, h2⟩], h3⟩
    · right
      refine ⟨A', e, ?_, h2, ?_, h3⟩
      · rw [hP, if_neg h1, ← h3]; exact (h.last e (by rw [h2]; simp)).1
      · rw [hP, if_neg h1, h3]
  have hlastP : P ≠ [] → lastNm P = (bc, bp) := by
    intro hne
    rcases hPA with ⟨h1, _⟩ | ⟨A', e, _, h2, h3, h4⟩
    · exact absurd h1 hne
    · rw [← h3, (h.last e (by rw [h2]; simp)).2, h4]
  have hnotin : P ++ [(c, p)] ∉ (A ++ S ++ T).map fun e => π (nm e) := by
    intro hin
    obtain ⟨e, he, hpe⟩ := List.mem_map.1 hin
    have := (h.last e he).2
    rw [hpe, lastNm_append] at this
    exact hnew e he this.symm
  have hsort := insert_place (A.map fun e => π (nm e)) (S.map fun e => π (nm e)) (T.map fun e => π (nm e)) P (c, p) (by simpa using h.row)
    (by
      rcases hPA with ⟨h1, h2⟩ | ⟨A', e, h1, h2, h3, _⟩
      · left; exact ⟨h1, by rw [h2]; rfl⟩
      · right; exact ⟨A'.map fun e => π (nm e), h1, by rw [h2, List.map_append, ← h3]; rfl⟩)
    (by
      intro x hx
      obtain ⟨e, he, rfl⟩ := List.mem_map.1 hx
      rw [(h.last e (by simp [he])).2]; exact hS e he)
    (by
      intro t ht
      rw [List.head?_map] at ht
      obtain ⟨e, he, rfl⟩ := Option.map_eq_some_iff.1 ht
      have hm : e ∈ T := List.mem_of_mem_head? he
      rw [(h.last e (by simp [hm])).2]; exact hT e he)
    (by intro hne; rw [hlastP hne]; exact hlt)
    (by simpa using hnotin)
    (by
      intro hin
      have hin : ([] : List Nm) ∈ (A ++ S ++ T).map fun e => π (nm e) := by simpa using hin
      obtain ⟨e, he, hpe⟩ := List.mem_map.1 hin
      exact (h.last e he).1 hpe)
  refine ⟨⟨?_, ?_, ?_, ?_⟩, hmem⟩
  · intro e he
    rcases (hmem e).1 he with rfl | he
    · show π (c, p) ≠ [] ∧ lastNm (π (c, p)) = (c, p)
      rw [hπ]; exact ⟨by simp, lastNm_append _ _⟩
    · exact h.last e he
  · have : (A ++ S ++ (⟨c, p, ch, false⟩ : El) :: T).map (fun e => π (nm e)) = A.map (fun e => π (nm e)) ++ S.map (fun e => π (nm e)) ++ (P ++ [(c, p)]) :: T.map (fun e => π (nm e)) := by
      simp only [List.map_append, List.map_cons]
      rw [show π (nm (⟨c, p, ch, false⟩ : El)) = P ++ [(c, p)] from hπ]
    rw [this]; exact hsort
  · intro q hq
    obtain ⟨e, he, rfl⟩ := List.mem_map.1 hq
    rcases (hmem e).1 he with rfl | he
    · show rises (π (c, p))
      rw [hπ]
      rcases hPA with ⟨h1, _⟩ | ⟨A', e', _, h2, h3, h4⟩
      · rw [h1]; trivial
      · have hr : rises P := by rw [← h3]; exact h.row.rises _ (List.mem_map_of_mem (f := fun e => π (nm e)) (by rw [h2]; simp))
        have hl := hlastP (by assumption)
        have key : ∀ P : List Nm, P ≠ [] → rises P → nlt (lastNm P) (c, p) → rises (P ++ [(c, p)]) := by
          intro P
          induction P with
          | nil => intro h; exact absurd rfl h
          | cons a r ih =>
            intro _ hr hl
            cases r with
            | nil => exact ⟨hl, trivial⟩
            | cons b r => exact ⟨hr.1, ih (by simp) hr.2 (by simpa [lastNm] using hl)⟩
        exact key P (by assumption) hr (by rw [hl]; exact hlt)
    · exact h.row.rises _ (List.mem_map_of_mem (f := fun e => π (nm e)) he)
  · intro q r hq hqr
    have sub : ∀ z, z ∈ (A ++ S ++ T).map (fun e => π (nm e)) → z ∈ (A ++ S ++ (⟨c, p, ch, false⟩ : El) :: T).map (fun e => π (nm e)) := by
      intro z hz
      obtain ⟨e, he, rfl⟩ := List.mem_map.1 hz
      exact List.mem_map_of_mem (f := fun e => π (nm e)) ((hmem e).2 (Or.inr he))
    obtain ⟨e, he, hpe⟩ := List.mem_map.1 hqr
    rcases (hmem e).1 he with rfl | he
    · have hpe : P ++ [(c, p)] = q ++ r := by rw [← hπ]; exact hpe
      -- a beginning of the new path: the whole of it, or a beginning of the one ahead's
      by_cases hr : r = []
      · subst hr
        rw [List.append_nil] at hpe
        rw [← hpe, ← hπ]
        exact List.mem_map_of_mem (f := fun e => π (nm e)) (a := (⟨c, p, ch, false⟩ : El)) ((hmem _).2 (Or.inl rfl))
      · obtain ⟨r', x, rfl⟩ : ∃ r' x, r = r' ++ [x] := ⟨r.dropLast, r.getLast hr, (List.dropLast_concat_getLast hr).symm⟩
        rw [← List.append_assoc] at hpe
        have hP2 : P = q ++ r' := (List.append_inj' hpe rfl).1
        rcases hPA with ⟨h1, _⟩ | ⟨A', e', _, h2, h3, h4⟩
        · rw [h1] at hP2
          have := congrArg List.length hP2
          simp only [List.length_nil, List.length_append] at this
          exact absurd (List.length_eq_zero_iff.1 (by omega)) hq
        · refine sub _ (h.row.closed q r' hq ?_)
          rw [← hP2, ← h3]
          exact List.mem_map_of_mem (f := fun e => π (nm e)) (by rw [h2]; simp)
    · refine sub _ (h.row.closed q r hq ?_)
      rw [← hpe]
      exact List.mem_map_of_mem (f := fun e => π (nm e)) he

end Go.Chorus
