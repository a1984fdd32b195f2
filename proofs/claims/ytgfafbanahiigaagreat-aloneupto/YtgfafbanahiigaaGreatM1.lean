/- One peer's row, as a list: what an insertion and a deletion of its own do to the text. -/
import Derived.Test.YtgfafbanahiigaaGreatV15
set_option linter.unusedVariables false
set_option linter.unusedSimpArgs false
namespace Go.Proofs.YtgfafbanahiigaaGreat
open Go.RowKit Go.Chorus

def live (es : List El) : List El := es.filter fun e => !e.dead
def chars (es : List El) : List Int := (live es).map (·.char)

theorem live_append (a b : List El) : live (a ++ b) = live a ++ live b := by simp [live]
theorem live_cons (e : El) (r : List El) : live (e :: r) = if e.dead then live r else e :: live r := by
  cases h : e.dead <;> simp [live, h]

theorem liveAt_neg (es : List El) (a : Int) (h : a < 0) : liveAt es a = none := by
  induction es generalizing a with
  | nil => rfl
  | cons e r ih =>
    unfold liveAt
    split
    · exact ih a h
    · rw [if_neg (by omega)]; exact ih _ (by omega)

theorem liveAt_ge (es : List El) (a : Int) (h : ((live es).length : Int) ≤ a) : liveAt es a = none := by
  induction es generalizing a with
  | nil => rfl
  | cons e r ih =>
    rw [live_cons] at h
    unfold liveAt
    split
    · rename_i hd; rw [if_pos hd] at h; exact ih a h
    · rename_i hd
      rw [if_neg hd] at h
      simp at h
      rw [if_neg (by omega)]; exact ih _ (by omega)

theorem liveAt_lt (es : List El) (a : Int) (h0 : 0 ≤ a) (h : a < ((live es).length : Int)) : ∃ e, liveAt es a = some e := by
  induction es generalizing a with
  | nil => simp [live] at h; omega
  | cons e r ih =>
    rw [live_cons] at h
    unfold liveAt
    split
    · rename_i hd; rw [if_pos hd] at h; exact ih a h0 h
    · rename_i hd
      rw [if_neg hd] at h
      simp at h
      split
      · exact ⟨_, rfl⟩
      · exact ih _ (by omega) (by omega)

theorem liveAt_split (es : List El) (a : Int) (e : El) (h : liveAt es a = some e) : ∃ pre post, es = pre ++ e :: post ∧ e.dead = false ∧ ((live pre).length : Int) = a := by
  induction es generalizing a with
  | nil => cases h
  | cons x r ih =>
    unfold liveAt at h
    split at h
    · rename_i hd
      obtain ⟨pre, post, rfl, h1, h2⟩ := ih a h
      exact ⟨x :: pre, post, rfl, h1, by rw [live_cons, if_pos hd]; exact h2⟩
    · rename_i hd
      split at h
      · rename_i ha
        cases h
        exact ⟨[], r, rfl, by simpa using hd, by simp [live, ha]⟩
      · obtain ⟨pre, post, rfl, h1, h2⟩ := ih _ h
        exact ⟨x :: pre, post, rfl, h1, by rw [live_cons, if_neg hd]; simp; omega⟩

theorem findFrom_none (c p : Int) (es : List El) (k : Nat) (h : ∀ e ∈ es, ¬ ((e.clock : Int) = c ∧ (e.peer : Int) = p)) : findFrom c p es k = -1 := by
  induction es generalizing k with
  | nil => rfl
  | cons e r ih =>
    unfold findFrom
    rw [if_neg (h e (by simp))]
    exact ih _ (fun x hx => h x (by simp [hx]))

theorem findFrom_split (pre post : List El) (e : El) (k : Nat) (h : ∀ x ∈ pre, ¬ ((x.clock : Int) = e.clock ∧ (x.peer : Int) = e.peer)) : findFrom e.clock e.peer (pre ++ e :: post) k = ((k + pre.length : Nat) : Int) := by
  induction pre generalizing k with
  | nil => unfold findFrom; simp
  | cons x r ih =>
    simp only [List.cons_append]
    unfold findFrom
    rw [if_neg (h x (by simp)), ih (k + 1) (fun y hy => h y (by simp [hy]))]
    simp; omega

theorem behindGreater_none (c p : Nat) (es : List El) (k : Nat) (h : ∀ e ∈ es, isGreater e c p = false) : behindGreater c p es k = k := by
  cases es with
  | nil => rfl
  | cons e r => unfold behindGreater; rw [h e (by simp)]; rfl

/-- What a peer's row is, where all is of one peer. -/
structure Inv (es : List El) (clock me : Nat) : Prop where
  el : ∀ e ∈ es, 1 ≤ e.clock ∧ e.clock ≤ clock ∧ e.peer = me ∧ e.Fits
  uniq : es.Pairwise (fun a b => a.clock ≠ b.clock)

theorem not_greater {es : List El} {clock me : Nat} (h : Inv es clock me) : ∀ e ∈ es, isGreater e (clock + 1) me = false := by
  intro e he
  have := (h.el e he).2.1
  unfold isGreater greaterB
  rw [if_neg (by omega), decide_eq_false_iff_not]
  omega

theorem not_there {es : List El} {clock me : Nat} (h : Inv es clock me) : findFrom ((clock + 1 : Nat) : Int) me es 0 = -1 :=
  findFrom_none _ _ _ _ (fun e he hh => by have := (h.el e he).2.1; omega)

theorem insertEl_begin {es : List El} {clock me : Nat} (h : Inv es clock me) (ch : Int) : insertEl es (clock + 1) me 0 0 ch = ⟨clock + 1, me, ch, false⟩ :: es := by
  unfold insertEl
  rw [not_there h]
  rw [if_neg (by simp [placeOk])]
  have hp : placeOf ((0 : Nat) : Int) ((0 : Nat) : Int) es = 0 := by simp [placeOf]
  simp only [hp]
  simp [behindGreater_none _ _ _ _ (not_greater h)]

theorem pre_ne {pre post : List El} {e : El} {clock me : Nat} (h : Inv (pre ++ e :: post) clock me) : ∀ x ∈ pre, ¬ ((x.clock : Int) = e.clock ∧ (x.peer : Int) = e.peer) := by
  intro x hx hh
  have := (List.pairwise_append.1 h.uniq).2.2 x hx e (by simp)
  omega

theorem placeOf_split {pre post : List El} {e : El} {clock me : Nat} (h : Inv (pre ++ e :: post) clock me) : placeOf e.clock e.peer (pre ++ e :: post) = ((pre.length + 1 : Nat) : Int) ∧ placeOk e.clock e.peer (pre ++ e :: post) = true := by
  have h1 := (h.el e (by simp)).1
  have hf := findFrom_split pre post e 0 (pre_ne h)
  have hz : ¬ ((e.clock : Int) = 0 ∧ (e.peer : Int) = 0) := by omega
  constructor
  · unfold placeOf; rw [if_neg hz, hf]; omega
  · unfold placeOk; rw [if_neg hz, hf, decide_eq_true_iff]; omega

theorem insertEl_split {pre post : List El} {e : El} {clock me : Nat} (h : Inv (pre ++ e :: post) clock me) (ch : Int) : insertEl (pre ++ e :: post) (clock + 1) me e.clock e.peer ch = pre ++ e :: ⟨clock + 1, me, ch, false⟩ :: post := by
  obtain ⟨h1, h2⟩ := placeOf_split h
  unfold insertEl
  rw [not_there h, h2]
  rw [if_neg (by simp)]
  simp only [h1, Int.toNat_natCast]
  have hd : (pre ++ e :: post).drop (pre.length + 1) = post := by
    rw [show pre ++ e :: post = (pre ++ [e]) ++ post by simp, show pre.length + 1 = (pre ++ [e]).length by simp, List.drop_left']; rfl
  have ht : (pre ++ e :: post).take (pre.length + 1) = pre ++ [e] := by
    rw [show pre ++ e :: post = (pre ++ [e]) ++ post by simp, show pre.length + 1 = (pre ++ [e]).length by simp, List.take_left']; rfl
  rw [behindGreater_none _ _ _ _ (fun x hx => not_greater h x (List.mem_of_mem_drop hx)), hd, ht]
  simp

theorem modify_at (pre post : List El) (e : El) (f : El → El) : (pre ++ e :: post).modify pre.length f = pre ++ f e :: post := by
  induction pre with
  | nil => rfl
  | cons x r ih =>
    show x :: ((r ++ e :: post).modify r.length f) = _
    rw [ih]; rfl

theorem killEl_split {pre post : List El} {e : El} {clock me : Nat} (h : Inv (pre ++ e :: post) clock me) : killEl (pre ++ e :: post) e.clock e.peer = pre ++ { e with dead := true } :: post := by
  have hf := findFrom_split pre post e 0 (pre_ne h)
  unfold killEl
  rw [hf, if_pos (by omega), Int.toNat_natCast, Nat.zero_add, modify_at]

theorem fits_new (c me : Nat) (ch : Int) (h1 : c < 4294967296) (h2 : me < 256) (h3 : 0 ≤ ch) (h4 : ch ≤ 1114111) : (⟨c, me, ch, false⟩ : El).Fits := ⟨h1, h2, by show -2147483648 ≤ ch; omega, by show ch ≤ 2147483647; omega⟩

/-- An insertion of the peer's own: the text as a list of characters. -/
theorem insert_step (es : List El) (clock me : Nat) (h : Inv es clock me) (hme : me < 256) (hcl : clock + 1 < 4294967296) (a : Nat) (ha : a ≤ (live es).length) (ch : Int) (h3 : 0 ≤ ch) (h4 : ch ≤ 1114111) :
    ∃ tc tp, behindOf es a = some (tc, tp) ∧ tc < 4294967296 ∧ tp < 256 ∧ placeOk tc tp es = true ∧ Inv (insertEl es (clock + 1) me tc tp ch) (clock + 1) me ∧
      chars (insertEl es (clock + 1) me tc tp ch) = (chars es).take a ++ ch :: (chars es).drop a ∧ (insertEl es (clock + 1) me tc tp ch).length = es.length + 1 := by
  by_cases h0 : a = 0
  · subst h0
    refine ⟨0, 0, rfl, by omega, by omega, by simp [placeOk], ?_⟩
    rw [insertEl_begin h]
    refine ⟨⟨fun e he => ?_, ?_⟩, ?_, by simp⟩
    · simp only [List.mem_cons] at he
      rcases he with rfl | he
      · exact ⟨by show 1 ≤ clock + 1; omega, Nat.le_refl _, rfl, fits_new _ _ _ hcl hme h3 h4⟩
      · have := h.el e he; exact ⟨this.1, by omega, this.2.2⟩
    · refine List.pairwise_cons.2 ⟨fun e he => ?_, h.uniq⟩
      have := (h.el e he).2.1
      show clock + 1 ≠ e.clock; omega
    · simp [chars, live_cons]
  · obtain ⟨e, he⟩ := liveAt_lt es ((a : Int) - 1) (by omega) (by omega)
    obtain ⟨pre, post, rfl, hd, hl⟩ := liveAt_split es _ e he
    have hel := h.el e (by simp)
    refine ⟨e.clock, e.peer, ?_, by omega, hel.2.2.2.2.1, (placeOf_split h).2, ?_⟩
    · unfold behindOf
      rw [if_neg (by omega), if_neg (by omega), he]; rfl
    · rw [insertEl_split h]
      refine ⟨⟨fun x hx => ?_, ?_⟩, ?_, by simp; omega⟩
      · simp only [List.mem_append, List.mem_cons] at hx
        rcases hx with hx | rfl | rfl | hx
        · have := h.el x (by simp [hx]); exact ⟨this.1, by omega, this.2.2⟩
        · exact ⟨hel.1, by omega, hel.2.2⟩
        · exact ⟨by show 1 ≤ clock + 1; omega, Nat.le_refl _, rfl, fits_new _ _ _ hcl hme h3 h4⟩
        · have := h.el x (by simp [hx]); exact ⟨this.1, by omega, this.2.2⟩
      · have hu := List.pairwise_append.1 h.uniq
        have hu2 := List.pairwise_cons.1 hu.2.1
        refine List.pairwise_append.2 ⟨hu.1, List.pairwise_cons.2 ⟨fun x hx => ?_, List.pairwise_cons.2 ⟨fun x hx => ?_, hu2.2⟩⟩, fun x hx y hy => ?_⟩
        · simp only [List.mem_cons] at hx
          rcases hx with rfl | hx
          · show e.clock ≠ clock + 1; omega
          · exact hu2.1 x hx
        · have := (h.el x (by simp [hx])).2.1
          show clock + 1 ≠ x.clock; omega
        · simp only [List.mem_cons] at hy
          rcases hy with rfl | rfl | hy
          · exact hu.2.2 x hx y (by simp)
          · have := (h.el x (by simp [hx])).2.1
            show x.clock ≠ clock + 1; omega
          · exact hu.2.2 x hx y (by simp [hy])
      · have hdn : ¬ e.dead = true := by rw [hd]; decide
        simp only [chars, live_append, live_cons, if_neg hdn, List.map_append, List.map_cons]
        have hla : ((live pre).map (·.char)).length + 1 = a := by simp; omega
        have e1 : (((live pre).map (·.char)) ++ e.char :: ((live post).map (·.char))).take a = ((live pre).map (·.char)) ++ [e.char] := by
          rw [show ((live pre).map (·.char)) ++ e.char :: ((live post).map (·.char)) = (((live pre).map (·.char)) ++ [e.char]) ++ ((live post).map (·.char)) by simp]
          exact List.take_left' (by simp; omega)
        have e2 : (((live pre).map (·.char)) ++ e.char :: ((live post).map (·.char))).drop a = (live post).map (·.char) := by
          rw [show ((live pre).map (·.char)) ++ e.char :: ((live post).map (·.char)) = (((live pre).map (·.char)) ++ [e.char]) ++ ((live post).map (·.char)) by simp]
          exact List.drop_left' (by simp; omega)
        rw [e1, e2]
        simp

/-- A deletion of the peer's own. -/
theorem delete_step (es : List El) (clock me : Nat) (h : Inv es clock me) (a : Nat) (ha : a < (live es).length) :
    ∃ e, liveAt es a = some e ∧ e.clock < 4294967296 ∧ e.peer < 256 ∧ Inv (killEl es e.clock e.peer) (clock + 1) me ∧ chars (killEl es e.clock e.peer) = (chars es).take a ++ (chars es).drop (a + 1) ∧ (killEl es e.clock e.peer).length = es.length := by
  obtain ⟨e, he⟩ := liveAt_lt es a (by omega) (by omega)
  obtain ⟨pre, post, rfl, hd, hl⟩ := liveAt_split es _ e he
  have hel := h.el e (by simp)
  refine ⟨e, he, hel.2.2.2.1, hel.2.2.2.2.1, ?_⟩
  rw [killEl_split h]
  refine ⟨⟨fun x hx => ?_, ?_⟩, ?_, by simp⟩
  · simp only [List.mem_append, List.mem_cons] at hx
    rcases hx with hx | rfl | hx
    · have := h.el x (by simp [hx]); exact ⟨this.1, by omega, this.2.2⟩
    · exact ⟨hel.1, by show e.clock ≤ clock + 1; omega, hel.2.2.1, hel.2.2.2⟩
    · have := h.el x (by simp [hx]); exact ⟨this.1, by omega, this.2.2⟩
  · have hu := List.pairwise_append.1 h.uniq
    have hu2 := List.pairwise_cons.1 hu.2.1
    refine List.pairwise_append.2 ⟨hu.1, List.pairwise_cons.2 ⟨fun x hx => hu2.1 x hx, hu2.2⟩, fun x hx y hy => ?_⟩
    simp only [List.mem_cons] at hy
    rcases hy with rfl | hy
    · exact hu.2.2 x hx e (by simp)
    · exact hu.2.2 x hx y (by simp [hy])
  · have hdn : ¬ e.dead = true := by rw [hd]; decide
    simp only [chars, live_append, live_cons, if_neg hdn, List.map_append, List.map_cons, if_true]
    have hla : ((live pre).map (·.char)).length = a := by simp; omega
    rw [List.take_left' hla, show ((live pre).map (·.char)) ++ e.char :: ((live post).map (·.char)) = (((live pre).map (·.char)) ++ [e.char]) ++ ((live post).map (·.char)) by simp, List.drop_left' (by simp; omega)]

def bytesOf (l : List Int) : List UInt8 := l.flatMap Lib.encodeRune

theorem textBytes_chars (es : List El) : textBytes es = bytesOf (chars es) := by
  induction es with
  | nil => rfl
  | cons e r ih =>
    unfold textBytes
    rw [ih]
    cases h : e.dead <;> simp [chars, live_cons, h, bytesOf]

end Go.Proofs.YtgfafbanahiigaaGreat
