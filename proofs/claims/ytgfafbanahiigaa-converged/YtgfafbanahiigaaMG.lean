import Derived.Test.YtgfafbanahiigaaM11
/- P10: the merging of the peers' operations; of no program. -/
set_option linter.unusedVariables false
set_option linter.unusedSimpArgs false
namespace Go.Chorus
/-- P10's order. -/
def lessO (a b : Ope) : Bool := decide (a.clock < b.clock) || (decide (a.clock = b.clock) && decide (a.peer < b.peer))
theorem lessO_iff (a b : Ope) : lessO a b = true ↔ a.clock < b.clock ∨ (a.clock = b.clock ∧ a.peer < b.peer) := by
  simp [lessO]
/-- r is what is taken out of the lists, each time the least of their heads. -/
def Merged : List (List Ope) → List Ope → Prop
  | ls, [] => ∀ l ∈ ls, l = []
  | ls, o :: r => ∃ (i : Nat) (t : List Ope), ls[i]? = some (o :: t) ∧ (∀ l ∈ ls, ∀ q t', l = q :: t' → lessO q o = false) ∧ Merged (ls.set i t) r
theorem Merged.nil {ls : List (List Ope)} (h : ∀ l ∈ ls, l = []) : Merged ls [] := h
theorem Merged.cons {ls : List (List Ope)} {i : Nat} {o : Ope} {t r : List Ope} (hi : ls[i]? = some (o :: t)) (hm : ∀ l ∈ ls, ∀ q t', l = q :: t' → lessO q o = false) (hr : Merged (ls.set i t) r) : Merged ls (o :: r) := ⟨i, t, hi, hm, hr⟩
theorem Merged.ind {motive : (ls : List (List Ope)) → (r : List Ope) → Merged ls r → Prop} (nil : ∀ {ls : List (List Ope)} (h : ∀ l ∈ ls, l = []), motive ls [] (Merged.nil h))
    (cons : ∀ {ls : List (List Ope)} {i : Nat} {o : Ope} {t r : List Ope} (hi : ls[i]? = some (o :: t)) (hm : ∀ l ∈ ls, ∀ q t', l = q :: t' → lessO q o = false) (hr : Merged (ls.set i t) r) (_ : motive (ls.set i t) r hr), motive ls (o :: r) (Merged.cons hi hm hr)) :
    {ls : List (List Ope)} → {r : List Ope} → (h : Merged ls r) → motive ls r h
  | _, [], h => nil h
  | _, _ :: _, ⟨_, _, hi, hm, hr⟩ => cons hi hm hr (Merged.ind nil cons hr)
theorem Merged.mem {ls : List (List Ope)} {r : List Ope} (h : Merged ls r) (x : Ope) : x ∈ r ↔ ∃ l ∈ ls, x ∈ l := by
  induction h using Merged.ind with
  | nil h =>
    constructor
    · intro hx; cases hx
    · rintro ⟨l, hl, hx⟩; rw [h l hl] at hx; cases hx
  | @cons ls i o t r hi hm _ ih =>
    have hil : i < ls.length := (List.getElem?_eq_some_iff.1 hi).1
    rw [List.mem_cons, ih]
    constructor
    · rintro (rfl | ⟨l, hl, hx⟩)
      · exact ⟨_, List.mem_of_getElem? hi, by simp⟩
      · rcases List.mem_or_eq_of_mem_set hl with hl | rfl
        · exact ⟨l, hl, hx⟩
        · exact ⟨_, List.mem_of_getElem? hi, by simp [hx]⟩
    · rintro ⟨l, hl, hx⟩
      obtain ⟨j, hj, rfl⟩ := List.getElem_of_mem hl
      by_cases hji : j = i
      · subst hji
        have e := (List.getElem?_eq_some_iff.1 hi).2
        rw [e] at hx
        rcases List.mem_cons.1 hx with rfl | hx
        · exact Or.inl rfl
        · exact Or.inr ⟨t, List.mem_of_getElem? (i := j) (by rw [List.getElem?_set, if_pos rfl, if_pos hj]), hx⟩
      · refine Or.inr ⟨ls[j], List.mem_of_getElem? (i := j) ?_, hx⟩
        rw [List.getElem?_set, if_neg (fun e => hji e.symm), List.getElem?_eq_getElem hj]
theorem Merged.rising {ls : List (List Ope)} {r : List Ope} (h : Merged ls r) (hs : ∀ l ∈ ls, l.Pairwise fun a b => a.clock ≤ b.clock) : r.Pairwise fun a b => a.clock ≤ b.clock := by
  induction h using Merged.ind with
  | nil _ => exact List.Pairwise.nil
  | @cons ls i o t r hi hm hr ih =>
    have hio := hs _ (List.mem_of_getElem? hi)
    have hs' : ∀ l ∈ ls.set i t, l.Pairwise fun a b => a.clock ≤ b.clock := fun l hl => by
      rcases List.mem_or_eq_of_mem_set hl with hl | rfl
      · exact hs l hl
      · exact (List.pairwise_cons.1 hio).2
    refine List.pairwise_cons.2 ⟨fun x hx => ?_, ih hs'⟩
    obtain ⟨l, hl, hxl⟩ := (hr.mem x).1 hx
    rcases List.mem_or_eq_of_mem_set hl with hl | rfl
    · cases l with
      | nil => cases hxl
      | cons q t' =>
        have h1 := hm _ hl q t' rfl
        have h2 : o.clock ≤ q.clock := by
          by_cases hlt : q.clock < o.clock
          · have := (lessO_iff q o).2 (Or.inl hlt)
            rw [h1] at this; cases this
          · omega
        rcases List.mem_cons.1 hxl with rfl | hxl
        · exact h2
        · exact Nat.le_trans h2 ((List.pairwise_cons.1 (hs _ hl)).1 x hxl)
    · exact (List.pairwise_cons.1 hio).1 x hxl
/-- Above 'known': of each peer what it has not got. -/
def above (known : List Nat) (log : List (List Ope)) : List (List Ope) := (List.range log.length).map fun j => (log.getD j []).drop (known.getD j 0)
/-- An operation that was delivered and is above 'known' is told; all that is told was delivered and is above. -/
theorem above_mem {N : Nat} {H : List Ope} {k : Nat → Nat} {log : List (List Ope)} (h : LogIn N H k log) (known : List Nat) (x : Ope) : (∃ l ∈ above known log, x ∈ l) ↔ (∃ j l, log[j]? = some l ∧ x ∈ l ∧ known.getD j 0 < x.num) := by
  have key : ∀ (j : Nat) (l : List Ope), log[j]? = some l → (x ∈ l.drop (known.getD j 0) ↔ x ∈ l ∧ known.getD j 0 < x.num) := fun j l hl => by
    have he := (h.each j l hl).2
    constructor
    · intro hx
      obtain ⟨i, hi, hxe⟩ := List.getElem_of_mem hx
      rw [List.getElem_drop] at hxe
      have hi2 : known.getD j 0 + i < l.length := by rw [List.length_drop] at hi; omega
      have := he (known.getD j 0 + i) x (by rw [List.getElem?_eq_getElem hi2, hxe])
      exact ⟨List.mem_of_mem_drop hx, by omega⟩
    · rintro ⟨hx, hn⟩
      obtain ⟨i, hi, hxe⟩ := List.getElem_of_mem hx
      have := he i x (by rw [List.getElem?_eq_getElem hi, hxe])
      have hi3 : known.getD j 0 ≤ i := by omega
      refine List.mem_of_getElem? (i := i - known.getD j 0) ?_
      rw [List.getElem?_drop, show known.getD j 0 + (i - known.getD j 0) = i by omega, List.getElem?_eq_getElem hi, hxe]
  unfold above
  constructor
  · rintro ⟨l, hl, hx⟩
    obtain ⟨j, hj, rfl⟩ := List.mem_map.1 hl
    have hjl : j < log.length := List.mem_range.1 hj
    have e : log.getD j [] = log[j] := by rw [List.getD_eq_getElem?_getD, List.getElem?_eq_getElem hjl]; rfl
    rw [e] at hx
    exact ⟨j, log[j], List.getElem?_eq_getElem hjl, (key j _ (List.getElem?_eq_getElem hjl)).1 hx⟩
  · rintro ⟨j, l, hl, hx⟩
    obtain ⟨hjl, e⟩ := List.getElem?_eq_some_iff.1 hl
    refine ⟨(log.getD j []).drop (known.getD j 0), List.mem_map.2 ⟨j, List.mem_range.2 hjl, rfl⟩, ?_⟩
    have e2 : log.getD j [] = l := by rw [List.getD_eq_getElem?_getD, hl]; rfl
    rw [e2]
    exact (key j l hl).2 hx
/-- What was delivered lies in the log. -/
theorem LogIn.has {N : Nat} {H : List Ope} {k : Nat → Nat} {log : List (List Ope)} (h : LogIn N H k log) (hh : HistOk H) {q : Ope} (hq : q ∈ H) (hp : q.peer < N) (hk : q.num ≤ k q.peer) : ∃ l, log[q.peer]? = some l ∧ q ∈ l := by
  have hl : q.peer < log.length := by rw [h.len]; exact hp
  obtain ⟨h1, h2⟩ := h.each q.peer _ (List.getElem?_eq_getElem hl)
  have hr := hh.range q hq
  have hi : q.num - 1 < (log[q.peer]).length := by omega
  obtain ⟨a, b, c⟩ := h2 (q.num - 1) _ (List.getElem?_eq_getElem hi)
  have e : (log[q.peer])[q.num - 1] = q := hh.inj _ a q hq b (Or.inl (by omega))
  refine ⟨_, List.getElem?_eq_getElem hl, ?_⟩
  have := List.getElem_mem hi
  rw [e] at this; exact this
theorem LogIn.rising {N : Nat} {H : List Ope} {k : Nat → Nat} {log : List (List Ope)} (h : LogIn N H k log) (hh : HistOk H) {j : Nat} {l : List Ope} (hl : log[j]? = some l) : l.Pairwise fun a b => a.clock ≤ b.clock := by
  rw [List.pairwise_iff_getElem]
  intro i m hi hm him
  obtain ⟨a1, a2, a3⟩ := (h.each j l hl).2 i _ (List.getElem?_eq_getElem hi)
  obtain ⟨b1, b2, b3⟩ := (h.each j l hl).2 m _ (List.getElem?_eq_getElem hm)
  have hof := hh.of _ b1
  have := (hof.2.2.2 _ a1 (by rw [a2, ← b2]; have := hof.2.2.1; omega)).2
  omega
/-- P10, P9: who receives the rest of another one knows all that the other one knows. -/
theorem rest_joins {N : Nat} {H : List Ope} {s t : Pr} {L : List Ope} (h : HistOk H) (hg : InGroup N H) (p : PeerOk N H s) (q : PeerOk N H t) (hm : Merged (above s.known t.log) L) :
    PeerOk N H (recvAll s L).1 ∧ (recvAll s L).2.2 = 0 ∧ (recvAll s L).1.me = s.me ∧ (∀ j, s.k j ≤ (recvAll s L).1.k j) ∧ (∀ j, t.k j ≤ (recvAll s L).1.k j) := by
  have hmem : ∀ x, x ∈ L ↔ ∃ j l, t.log[j]? = some l ∧ x ∈ l ∧ s.known.getD j 0 < x.num := fun x => by rw [hm.mem x]; exact above_mem q.1.log s.known x
  have hin : ∀ x ∈ L, x ∈ H ∧ x.num ≤ t.k x.peer ∧ s.k x.peer < x.num := fun x hx => by
    obtain ⟨j, l, hl, hxl, hn⟩ := (hmem x).1 hx
    obtain ⟨h1, h2⟩ := q.1.log.each j l hl
    obtain ⟨i, hi, hxe⟩ := List.getElem_of_mem hxl
    obtain ⟨a, b, c⟩ := h2 i x (by rw [List.getElem?_eq_getElem hi, hxe])
    subst b
    exact ⟨a, by omega, hn⟩
  have hof : ∀ x ∈ H, x.num ≤ t.k x.peer → s.k x.peer < x.num → x ∈ L := fun x hx h1 h2 => by
    obtain ⟨l, hl, hxl⟩ := q.1.log.has h hx (hg x hx).1 h1
    exact (hmem x).2 ⟨_, l, hl, hxl, h2⟩
  have hrise : L.Pairwise fun a b => a.clock ≤ b.clock := by
    refine hm.rising (fun l hl => ?_)
    unfold above at hl
    obtain ⟨j, hj, rfl⟩ := List.mem_map.1 hl
    have hjl : j < t.log.length := List.mem_range.1 hj
    have e : t.log.getD j [] = t.log[j] := by rw [List.getD_eq_getElem?_getD, List.getElem?_eq_getElem hjl]; rfl
    rw [e]
    exact (q.1.log.rising h (List.getElem?_eq_getElem hjl)).sublist (List.drop_sublist _ _)
  obtain ⟨r1, r2, r3, r4, _, r6⟩ := recv_rising h hg L s p (fun x hx => (hin x hx).1) hrise (fun x hx y hy hys => by
    by_cases hk : y.num ≤ s.k y.peer
    · exact Or.inl hk
    · refine Or.inr (hof y hy (Nat.le_trans hys ?_) (by omega))
      exact q.1.view.causal x (hin x hx).1 (hin x hx).2.1 y.peer)
  refine ⟨r1, r2, r3, r4, fun j => ?_⟩
  by_cases h0 : t.k j = 0
  · omega
  · obtain ⟨x, hx, hxp, hxn⟩ := h.there j (t.k j) (by omega) (q.1.view.le j)
    by_cases hk : x.num ≤ s.k x.peer
    · have := r4 j; rw [hxp] at hk; omega
    · have := r6 x (hof x hx (by rw [hxp]; omega) (by omega))
      rw [hxp] at this; omega
end Go.Chorus
/- P10: a heap of at most three lines, and what is merged out of it; of no program. -/
namespace Go.Chorus
theorem lessO_irrefl (a : Ope) : lessO a a = false := by
  rw [Bool.eq_false_iff]
  intro h
  have := (lessO_iff a a).1 h
  omega
theorem lessO_trans {a b c : Ope} (h : lessO a b = true) (k : lessO b c = true) : lessO a c = true := by
  rw [lessO_iff] at *
  omega
theorem lessO_asymm {a b : Ope} (h : lessO a b = true) : lessO b a = false := by
  rw [Bool.eq_false_iff]
  intro k
  rw [lessO_iff] at *
  omega
theorem lessO_neg {a b c : Ope} (h : lessO a b = false) (k : lessO b c = false) : lessO a c = false := by
  rw [Bool.eq_false_iff] at *
  rw [Ne, lessO_iff] at *
  omega
section
variable {α : Type} (f : α → List Ope)
def lessA (a b : α) : Bool := match f a, f b with | x :: _, y :: _ => lessO x y | _, _ => false
/-- The first one's next goes ahead of all others'. -/
def HeapOk : List α → Prop
  | [] => True
  | h :: t => ∀ l ∈ t, lessA f l h = false
variable {f}
theorem lessA_ne {a b : α} (ha : f a ≠ []) (hb : f b ≠ []) : ∃ x t y u, f a = x :: t ∧ f b = y :: u ∧ lessA f a b = lessO x y := by
  cases h1 : f a with
  | nil => exact absurd h1 ha
  | cons x t =>
    cases h2 : f b with
    | nil => exact absurd h2 hb
    | cons y u => exact ⟨x, t, y, u, rfl, rfl, by simp only [lessA, h1, h2]⟩
theorem lessA_asymm {a b : α} (h : lessA f a b = true) : lessA f b a = false := by
  unfold lessA at *
  split at h
  · rename_i h1 h2; rw [h1, h2]; exact lessO_asymm h
  · cases h
theorem lessA_trans {a b c : α} (h : lessA f a b = true) (k : lessA f b c = true) : lessA f a c = true := by
  unfold lessA at *
  split at h
  · rename_i h1 h2
    rw [h2] at k
    split at k
    · rename_i h3 h4
      cases h3
      rw [h1, h4]; exact lessO_trans h k
    · cases k
  · cases h
theorem lessA_neg {a b c : α} (ha : f a ≠ []) (hb : f b ≠ []) (hc : f c ≠ []) (h : lessA f a b = false) (k : lessA f b c = false) : lessA f a c = false := by
  unfold lessA at *
  cases h1 : f a with
  | nil => exact absurd h1 ha
  | cons x t =>
    cases h2 : f b with
    | nil => exact absurd h2 hb
    | cons y u =>
      cases h3 : f c with
      | nil => exact absurd h3 hc
      | cons z v =>
        rw [h1, h2] at h
        rw [h2, h3] at k
        exact lessO_neg h k
/-- One is laid behind a heap and goes up. -/
theorem heap_up {h x : α} {t : List α} (hh : HeapOk f (h :: t)) (hl : lessA f x h = true) : HeapOk f (x :: (t ++ [h])) := by
  intro l hm
  rcases List.mem_append.1 hm with hm | hm
  · rw [Bool.eq_false_iff]
    intro hc
    have h1 := lessA_trans hc hl
    rw [hh l hm] at h1; cases h1
  · rw [List.mem_singleton.1 hm]
    exact lessA_asymm hl
theorem heap_stays {h x : α} {t : List α} (hh : HeapOk f (h :: t)) (hl : lessA f x h = false) : HeapOk f (h :: (t ++ [x])) := by
  intro l hm
  rcases List.mem_append.1 hm with hm | hm
  · exact hh l hm
  · rw [List.mem_singleton.1 hm]; exact hl
theorem heap_one (h : α) : HeapOk f [h] := fun l hl => by cases hl
theorem heap_two {h a : α} (hl : lessA f a h = false) : HeapOk f [h, a] := fun l hm => by
  rw [List.mem_singleton.1 hm]; exact hl
theorem heap_three {h a b : α} (ha : lessA f a h = false) (hb : lessA f b h = false) : HeapOk f [h, a, b] := fun l hm => by
  rcases List.mem_cons.1 hm with rfl | hm
  · exact ha
  · rw [List.mem_singleton.1 hm]; exact hb
/-- What is merged: the heads of a heap, one after the other. -/
theorem Merged.next {ls : List (List Ope)} {h : α} {t : List α} {o : Ope} {u : List Ope} (hp : ((h :: t).map f).Perm (ls.filter fun l => !l.isEmpty)) (hh : HeapOk f (h :: t)) (ho : f h = o :: u) :
    ∃ ls', (t.map f ++ (if u = [] then [] else [u])).Perm (ls'.filter fun l => !l.isEmpty) ∧ ∀ r, Merged ls' r → Merged ls (o :: r) := by
  have hm : o :: u ∈ ls := by
    have h1 : f h ∈ ls.filter fun l => !l.isEmpty := hp.mem_iff.1 (by simp)
    rw [ho] at h1
    exact (List.mem_filter.1 h1).1
  obtain ⟨A, B, rfl⟩ := List.append_of_mem hm
  have hset : (A ++ (o :: u) :: B).set A.length u = A ++ u :: B := by simp
  refine ⟨A ++ u :: B, ?_, fun r hr => ?_⟩
  · rw [List.filter_append, List.filter_cons_of_pos (by simp)] at hp
    rw [List.map_cons, ho] at hp
    have h2 : (t.map f).Perm (A.filter (fun l => !l.isEmpty) ++ B.filter fun l => !l.isEmpty) := List.Perm.cons_inv (hp.trans List.perm_middle)
    rw [List.filter_append]
    by_cases hu : u = []
    · rw [if_pos hu, List.append_nil, List.filter_cons_of_neg (by simp [hu])]
      exact h2
    · rw [if_neg hu, List.filter_cons_of_pos (by simp [hu])]
      exact (List.perm_append_comm.trans (h2.cons u)).trans List.perm_middle.symm
  · refine Merged.cons (i := A.length) (t := u) (by simp) (fun l hl q t' hq => ?_) (by rw [hset]; exact hr)
    have h1 : l ∈ (h :: t).map f := hp.mem_iff.2 (List.mem_filter.2 ⟨hl, by rw [hq]; rfl⟩)
    rw [List.map_cons] at h1
    rcases List.mem_cons.1 h1 with h1 | h1
    · rw [hq, ho] at h1
      cases h1
      exact lessO_irrefl _
    · obtain ⟨x, hx, hfx⟩ := List.mem_map.1 h1
      have h2 := hh x hx
      unfold lessA at h2
      rw [hfx, hq, ho] at h2
      exact h2
theorem Merged.ended {ls : List (List Ope)} (hp : (([] : List α).map f).Perm (ls.filter fun l => !l.isEmpty)) : Merged ls [] := by
  refine Merged.nil (fun l hl => ?_)
  have h1 : ls.filter (fun l => !l.isEmpty) = [] := List.nil_perm.1 hp
  rw [List.filter_eq_nil_iff] at h1
  have := h1 l hl
  simpa using this
end
end Go.Chorus
