/- What a group has made, and what a peer has of it: who knows the same has the same row; of no program. -/
import Derived.Test.YtgfafbanahiigaaM3
set_option linter.unusedVariables false
set_option linter.unusedSimpArgs false
namespace Go.Chorus

def opNm (o : Ope) : Nm := (o.clock, o.peer)
def targ (o : Ope) : Nm := (o.nclock, o.npeer)
def sn (o : Ope) (j : Nat) : Nat := o.seen.getD j 0

/-- The paths that a history (the newest first) tells. -/
def pathOf : List Ope → Nm → List Nm
  | [], _ => []
  | o :: H, n => if o.ins = true ∧ opNm o = n then (if o.nclock = 0 ∧ o.npeer = 0 then [] else pathOf H (targ o)) ++ [n] else pathOf H n

/-- How many operations a peer has made. -/
def cnt : List Ope → Nat → Nat
  | [], _ => 0
  | o :: H, k => (if o.peer = k then 1 else 0) + cnt H k

/-- What a peer may make behind a history. -/
structure HistStep (o : Ope) (H : List Ope) : Prop where
  num : o.num = cnt H o.peer + 1
  own : sn o o.peer = cnt H o.peer
  made : ∀ j, sn o j ≤ cnt H j
  whole : ∀ q ∈ H, q.num ≤ sn o q.peer → ∀ j, sn q j ≤ sn o j
  clock : ∀ q ∈ H, q.num ≤ sn o q.peer → q.clock < o.clock
  pos : 0 < o.clock
  name : (o.ins = true ∧ targ o = (0, 0)) ∨ ∃ q ∈ H, q.ins = true ∧ q.num ≤ sn o q.peer ∧ opNm q = targ o

/-- A history as peers make one. -/
def HistOk : List Ope → Prop
  | [] => True
  | o :: H => HistOk H ∧ HistStep o H

theorem HistOk.nil : HistOk [] := trivial

theorem HistOk.cons {o : Ope} {H : List Ope} (h : HistOk H) (num : o.num = cnt H o.peer + 1) (own : sn o o.peer = cnt H o.peer) (made : ∀ j, sn o j ≤ cnt H j)
    (whole : ∀ q ∈ H, q.num ≤ sn o q.peer → ∀ j, sn q j ≤ sn o j) (clock : ∀ q ∈ H, q.num ≤ sn o q.peer → q.clock < o.clock) (pos : 0 < o.clock)
    (name : (o.ins = true ∧ targ o = (0, 0)) ∨ ∃ q ∈ H, q.ins = true ∧ q.num ≤ sn o q.peer ∧ opNm q = targ o) : HistOk (o :: H) := ⟨h, num, own, made, whole, clock, pos, name⟩

theorem HistOk.ind {motive : (H : List Ope) → HistOk H → Prop} (nil : motive [] HistOk.nil)
    (cons : ∀ {o : Ope} {H : List Ope} (h : HistOk H) (num : o.num = cnt H o.peer + 1) (own : sn o o.peer = cnt H o.peer) (made : ∀ j, sn o j ≤ cnt H j)
      (whole : ∀ q ∈ H, q.num ≤ sn o q.peer → ∀ j, sn q j ≤ sn o j) (clock : ∀ q ∈ H, q.num ≤ sn o q.peer → q.clock < o.clock) (pos : 0 < o.clock)
      (name : (o.ins = true ∧ targ o = (0, 0)) ∨ ∃ q ∈ H, q.ins = true ∧ q.num ≤ sn o q.peer ∧ opNm q = targ o) (_ : motive H h), motive (o :: H) (HistOk.cons h num own made whole clock pos name)) :
    {H : List Ope} → (h : HistOk H) → motive H h
  | [], _ => nil
  | _ :: _, ⟨h, num, own, made, whole, clock, pos, name⟩ => cons h num own made whole clock pos name (HistOk.ind nil cons h)

theorem HistOk.range {H : List Ope} (h : HistOk H) : ∀ q ∈ H, 1 ≤ q.num ∧ q.num ≤ cnt H q.peer ∧ 0 < q.clock := by
  induction h using HistOk.ind with
  | nil => intro q hq; cases hq
  | @cons o H h num own made whole clock pos name ih =>
    intro q hq
    rcases List.mem_cons.1 hq with rfl | hq
    · simp only [cnt, if_true]; omega
    · have := ih q hq
      refine ⟨this.1, ?_, this.2.2⟩
      simp only [cnt]; omega

/-- Of one peer, a later operation has a later clock. -/
theorem HistOk.older {o : Ope} {H : List Ope} (h : HistOk (o :: H)) : ∀ q ∈ H, q.peer = o.peer → q.num < o.num ∧ q.clock < o.clock := by
  match h with
  | ⟨h, num, own, made, whole, clock, pos, name⟩ =>
    intro q hq hp
    have hr := h.range q hq
    rw [hp] at hr
    exact ⟨by omega, clock q hq (by rw [hp, own]; exact hr.2.1)⟩

theorem HistOk.inj {H : List Ope} (h : HistOk H) : ∀ a ∈ H, ∀ b ∈ H, a.peer = b.peer → (a.num = b.num ∨ a.clock = b.clock) → a = b := by
  induction h using HistOk.ind with
  | nil => intro a ha; cases ha
  | @cons o H h num own made whole clock pos name ih =>
    have hold := (HistOk.cons h num own made whole clock pos name).older
    intro a ha b hb hp he
    rcases List.mem_cons.1 ha with ha' | ha'
    · rcases List.mem_cons.1 hb with hb' | hb'
      · rw [ha', hb']
      · subst ha'; have := hold b hb' hp.symm; omega
    · rcases List.mem_cons.1 hb with hb' | hb'
      · subst hb'; have := hold a ha' hp; omega
      · exact ih a ha' b hb' hp he

theorem HistOk.inj_name {H : List Ope} (h : HistOk H) {a b : Ope} (ha : a ∈ H) (hb : b ∈ H) (he : opNm a = opNm b) : a = b := by
  unfold opNm at he
  simp only [Prod.mk.injEq] at he
  exact h.inj a ha b hb he.2 (Or.inr he.1)

/-- What a history says of each of its operations. -/
theorem HistOk.of {H : List Ope} (h : HistOk H) : ∀ o ∈ H, ((o.ins = true ∧ targ o = (0, 0)) ∨ ∃ q ∈ H, q.ins = true ∧ q.num ≤ sn o q.peer ∧ opNm q = targ o ∧ q.clock < o.clock) ∧ (∀ j, sn o j ≤ cnt H j) ∧ sn o o.peer + 1 = o.num ∧ (∀ q ∈ H, q.num ≤ sn o q.peer → (∀ j, sn q j ≤ sn o j) ∧ q.clock < o.clock) := by
  induction h using HistOk.ind with
  | nil => intro o ho; cases ho
  | @cons o H h num own made whole clock pos name ih =>
    have hcn : ∀ j, cnt H j ≤ cnt (o :: H) j := fun j => by simp only [cnt]; omega
    intro x hx
    rcases List.mem_cons.1 hx with rfl | hx
    · refine ⟨?_, fun j => Nat.le_trans (made j) (hcn j), by omega, ?_⟩
      · rcases name with h1 | ⟨q, hq, h1, h2, h3⟩
        · exact Or.inl h1
        · exact Or.inr ⟨q, by simp [hq], h1, h2, h3, clock q hq h2⟩
      · intro q hq hs
        rcases List.mem_cons.1 hq with rfl | hq
        · rw [own] at hs; omega
        · exact ⟨whole q hq hs, clock q hq hs⟩
    · obtain ⟨h1, h2, h3, h4⟩ := ih x hx
      refine ⟨?_, fun j => Nat.le_trans (h2 j) (hcn j), h3, ?_⟩
      · rcases h1 with h1 | ⟨q, hq, h1⟩
        · exact Or.inl h1
        · exact Or.inr ⟨q, by simp [hq], h1⟩
      · intro q hq hs
        rcases List.mem_cons.1 hq with rfl | hq
        · have := h2 q.peer; omega
        · exact h4 q hq hs

/-- A name that the history's tail has, or that is none of the new one's, keeps its path. -/
theorem pathOf_cons {o : Ope} {H : List Ope} (h : HistOk (o :: H)) {q : Ope} (hq : q ∈ H) : pathOf (o :: H) (opNm q) = pathOf H (opNm q) := by
  show (if o.ins = true ∧ opNm o = opNm q then (if o.nclock = 0 ∧ o.npeer = 0 then [] else pathOf H (targ o)) ++ [opNm q] else pathOf H (opNm q)) = _
  rw [if_neg]
  rintro ⟨_, he⟩
  unfold opNm at he
  simp only [Prod.mk.injEq] at he
  have := h.older q hq he.2.symm
  omega

theorem pathOf_mem {H : List Ope} (h : HistOk H) : ∀ o ∈ H, o.ins = true → pathOf H (opNm o) = (if o.nclock = 0 ∧ o.npeer = 0 then [] else pathOf H (targ o)) ++ [opNm o] := by
  induction H with
  | nil => intro o ho; cases ho
  | cons x H ih =>
    intro o ho hi
    have hx := h
    match h with
    | ⟨h, num, own, made, whole, clock, pos, name⟩ =>
      rcases List.mem_cons.1 ho with rfl | ho
      · show (if o.ins = true ∧ opNm o = opNm o then (if o.nclock = 0 ∧ o.npeer = 0 then [] else pathOf H (targ o)) ++ [opNm o] else pathOf H (opNm o)) = _
        rw [if_pos ⟨hi, rfl⟩]
        by_cases hz : o.nclock = 0 ∧ o.npeer = 0
        · rw [if_pos hz, if_pos hz]
        · rw [if_neg hz, if_neg hz]
          rcases name with ⟨_, h1⟩ | ⟨q, hq, _, _, h3⟩
          · exfalso; unfold targ at h1; simp only [Prod.mk.injEq] at h1; exact hz h1
          · rw [← h3, pathOf_cons hx hq]
      · rw [pathOf_cons hx ho, ih h o ho hi]
        by_cases hz : o.nclock = 0 ∧ o.npeer = 0
        · rw [if_pos hz, if_pos hz]
        · rw [if_neg hz, if_neg hz]
          rcases (h.of o ho).1 with ⟨_, h1⟩ | ⟨q, hq, _, _, h3, _⟩
          · exfalso; unfold targ at h1; simp only [Prod.mk.injEq] at h1; exact hz h1
          · rw [← h3, pathOf_cons hx hq]

/-- What a peer that knows K has of the history H: its row. -/
structure View (H : List Ope) (K : Nat → Nat) (es : List El) : Prop where
  le : ∀ j, K j ≤ cnt H j
  causal : ∀ q ∈ H, q.num ≤ K q.peer → ∀ j, sn q j ≤ K j
  row : RowOk (pathOf H) es
  mem : ∀ e ∈ es, ∃ q ∈ H, q.ins = true ∧ q.num ≤ K q.peer ∧ opNm q = nm e ∧ e.char = q.char ∧ (e.dead = true ↔ ∃ d ∈ H, d.ins = false ∧ d.num ≤ K d.peer ∧ targ d = nm e)
  all : ∀ q ∈ H, q.ins = true → q.num ≤ K q.peer → ∃ e ∈ es, nm e = opNm q

theorem RowOk.congr {π ρ : Nm → List Nm} {es : List El} (h : RowOk π es) (he : ∀ e ∈ es, ρ (nm e) = π (nm e)) : RowOk ρ es := by
  have : (es.map fun e => ρ (nm e)) = es.map fun e => π (nm e) := List.map_congr_left he
  exact ⟨fun e hm => by rw [he e hm]; exact h.last e hm, by rw [this]; exact h.row⟩

theorem View.nil : View [] (fun _ => 0) [] where
  le := fun j => Nat.zero_le _
  causal := fun q hq => by cases hq
  row := by
    refine ⟨?_, List.Pairwise.nil, ?_, ?_⟩
    · intro e he; cases he
    · intro p hp; cases hp
    · intro p q _ hp; cases hp
  mem := fun e he => by cases he
  all := fun q hq => by cases hq

/-- Somebody has made one more: nothing turns for one that has not got it. -/
theorem View.more {o : Ope} {H : List Ope} {K : Nat → Nat} {row : List El} (v : View H K row) (h : HistOk (o :: H)) : View (o :: H) K row := by
  have hnum : ¬ o.num ≤ K o.peer := by
    match h with
    | ⟨h, num, own, made, whole, clock, pos, name⟩ => have := v.le o.peer; omega
  refine ⟨fun j => Nat.le_trans (v.le j) (by simp only [cnt]; omega), ?_, ?_, ?_, ?_⟩
  · intro q hq hk
    rcases List.mem_cons.1 hq with rfl | hq
    · exact absurd hk hnum
    · exact v.causal q hq hk
  · refine v.row.congr (fun e he => ?_)
    obtain ⟨q, hq, _, _, h3, _⟩ := v.mem e he
    rw [← h3]; exact pathOf_cons h hq
  · intro e he
    obtain ⟨q, hq, h1, h2, h3, h4, h5⟩ := v.mem e he
    refine ⟨q, by simp [hq], h1, h2, h3, h4, h5.trans ⟨?_, ?_⟩⟩
    · rintro ⟨d, hd, hh⟩; exact ⟨d, by simp [hd], hh⟩
    · rintro ⟨d, hd, h6, h7, h8⟩
      rcases List.mem_cons.1 hd with rfl | hd
      · exact absurd h7 hnum
      · exact ⟨d, hd, h6, h7, h8⟩
  · intro q hq hi hk
    rcases List.mem_cons.1 hq with rfl | hq
    · exact absurd hk hnum
    · exact v.all q hq hi hk

/-- One more is known. -/
def bump (K : Nat → Nat) (p : Nat) : Nat → Nat := fun j => if j = p then K j + 1 else K j

theorem bump_iff {H : List Ope} (h : HistOk H) {K : Nat → Nat} {o q : Ope} (ho : o ∈ H) (hq : q ∈ H) (hn : o.num = K o.peer + 1) : q.num ≤ bump K o.peer q.peer ↔ q = o ∨ q.num ≤ K q.peer := by
  unfold bump
  by_cases hp : q.peer = o.peer
  · rw [if_pos hp]
    constructor
    · intro hk
      by_cases he : q.num = o.num
      · left; exact h.inj q hq o ho hp (Or.inl he)
      · right; rw [hp] at hk ⊢; omega
    · rintro (rfl | hk)
      · omega
      · omega
  · rw [if_neg hp]
    constructor
    · exact Or.inr
    · rintro (rfl | hk)
      · exact absurd rfl hp
      · exact hk

theorem View.bump_le {H : List Ope} {K : Nat → Nat} {row : List El} (v : View H K row) (h : HistOk H) {o : Ope} (ho : o ∈ H) (hn : o.num = K o.peer + 1) : ∀ j, bump K o.peer j ≤ cnt H j := by
  intro j
  unfold bump
  by_cases hj : j = o.peer
  · rw [if_pos hj]
    have := (h.range o ho).2.1
    subst hj; omega
  · rw [if_neg hj]; exact v.le j

theorem View.bump_causal {H : List Ope} {K : Nat → Nat} {row : List El} (v : View H K row) (h : HistOk H) {o : Ope} (ho : o ∈ H) (hn : o.num = K o.peer + 1) (hs : ∀ j, sn o j ≤ K j) : ∀ q ∈ H, q.num ≤ bump K o.peer q.peer → ∀ j, sn q j ≤ bump K o.peer j := by
  intro q hq hk j
  have hb : K j ≤ bump K o.peer j := by unfold bump; split <;> omega
  rcases (bump_iff h ho hq hn).1 hk with rfl | hk
  · exact Nat.le_trans (hs j) hb
  · exact Nat.le_trans (v.causal q hq hk j) hb

/-- P8, an insertion. -/
theorem View.ins {H : List Ope} {K : Nat → Nat} {row : List El} (v : View H K row) (h : HistOk H) {o : Ope} (ho : o ∈ H) (hi : o.ins = true) (hn : o.num = K o.peer + 1) (hs : ∀ j, sn o j ≤ K j)
    (hd : ∀ d ∈ H, d.ins = false → d.num ≤ K d.peer → targ d ≠ opNm o) :
    View H (bump K o.peer) (insertEl row o.clock o.peer o.nclock o.npeer o.char) := by
  have hof := h.of o ho
  have hnew : ∀ e ∈ row, nm e ≠ (o.clock, o.peer) := by
    intro e he hne
    obtain ⟨q, hq, h1, h2, h3, _⟩ := v.mem e he
    have : q = o := h.inj_name hq ho (by rw [h3, hne]; rfl)
    subst this; omega
  have h0 : ¬ ∃ e ∈ row, nm e = (0, 0) := by
    rintro ⟨e, he, hz⟩
    obtain ⟨q, hq, _, _, h3, _⟩ := v.mem e he
    have := (h.range q hq).2.2
    rw [hz] at h3; unfold opNm at h3; simp only [Prod.mk.injEq] at h3; omega
  have hpos := (h.range o ho).2.2
  have hb : (o.nclock = 0 ∧ o.npeer = 0) ∨ ∃ e ∈ row, nm e = (o.nclock, o.npeer) := by
    rcases hof.1 with ⟨_, h1⟩ | ⟨q, hq, h1, h2, h3, _⟩
    · left; unfold targ at h1; simpa using h1
    · right
      obtain ⟨e, he, hne⟩ := v.all q hq h1 (Nat.le_trans h2 (hs q.peer))
      exact ⟨e, he, by rw [hne, h3]; rfl⟩
  have hlt : nlt (o.nclock, o.npeer) (o.clock, o.peer) := by
    left
    show o.nclock < o.clock
    rcases hof.1 with ⟨_, h1⟩ | ⟨q, hq, h1, h2, h3, h4⟩
    · unfold targ at h1; simp only [Prod.mk.injEq] at h1; omega
    · unfold opNm targ at h3; simp only [Prod.mk.injEq] at h3; omega
  obtain ⟨hrow, hmem⟩ := v.row.insert o.clock o.peer o.nclock o.npeer (o.char : Int) hnew hb h0 hlt (pathOf_mem h o ho hi)
  refine ⟨v.bump_le h ho hn, v.bump_causal h ho hn hs, hrow, ?_, ?_⟩
  · intro e he
    rcases (hmem e).1 he with rfl | he
    · refine ⟨o, ho, hi, (bump_iff h ho ho hn).2 (Or.inl rfl), rfl, rfl, ?_⟩
      constructor
      · intro hh; cases hh
      · rintro ⟨d, hdm, h1, h2, h3⟩
        rcases (bump_iff h ho hdm hn).1 h2 with rfl | h2
        · rw [hi] at h1; cases h1
        · exact absurd h3 (hd d hdm h1 h2)
    · obtain ⟨q, hq, h1, h2, h3, h4, h5⟩ := v.mem e he
      refine ⟨q, hq, h1, (bump_iff h ho hq hn).2 (Or.inr h2), h3, h4, h5.trans ⟨?_, ?_⟩⟩
      · rintro ⟨d, hdm, h6, h7, h8⟩; exact ⟨d, hdm, h6, (bump_iff h ho hdm hn).2 (Or.inr h7), h8⟩
      · rintro ⟨d, hdm, h6, h7, h8⟩
        rcases (bump_iff h ho hdm hn).1 h7 with rfl | h7
        · rw [hi] at h6; cases h6
        · exact ⟨d, hdm, h6, h7, h8⟩
  · intro q hq hqi hk
    rcases (bump_iff h ho hq hn).1 hk with rfl | hk
    · exact ⟨_, (hmem _).2 (Or.inl rfl), rfl⟩
    · obtain ⟨e, he, hne⟩ := v.all q hq hqi hk
      exact ⟨e, (hmem e).2 (Or.inr he), hne⟩

/-- A deletion that is known names what is known. -/
theorem View.dels {H : List Ope} {K : Nat → Nat} {row : List El} (v : View H K row) (h : HistOk H) {o : Ope} (ho : o ∈ H) (hi : o.ins = true) (hn : o.num = K o.peer + 1) : ∀ d ∈ H, d.ins = false → d.num ≤ K d.peer → targ d ≠ opNm o := by
  intro d hd h1 h2 h3
  rcases (h.of d hd).1 with ⟨h4, _⟩ | ⟨q, hq, h4, h5, h6, _⟩
  · rw [h4] at h1; cases h1
  · have : q = o := h.inj_name hq ho (by rw [h6, h3])
    subst this
    have := v.causal d hd h2 q.peer
    omega

theorem killEl_mem (es : List El) (c p : Nat) (hnd : (es.map nm).Nodup) : (killEl es c p).map nm = es.map nm ∧ ∀ x, x ∈ killEl es c p ↔ ∃ e ∈ es, x = if nm e = (c, p) then { e with dead := true } else e := by
  unfold killEl
  by_cases hf : 0 ≤ findFrom c p es 0
  · rw [if_pos hf]
    obtain ⟨e, he, hne⟩ := (find_iff c p es).1 hf
    obtain ⟨A, B, rfl⟩ := List.append_of_mem he
    rw [List.map_append, List.map_cons, List.nodup_append, List.nodup_cons] at hnd
    obtain ⟨hA, ⟨hB1, hB⟩, hAB⟩ := hnd
    have hA' : ∀ x ∈ A, nm x ≠ (c, p) := fun x hx hxn => hAB (nm x) (List.mem_map_of_mem hx) (nm e) (by simp) (by rw [hxn, hne])
    have hB' : ∀ x ∈ B, nm x ≠ (c, p) := fun x hx hxn => hB1 (by rw [hne, ← hxn]; exact List.mem_map_of_mem hx)
    have hfe := find_there c p A B e 0 hA' hne
    rw [hfe]
    have hm : (A ++ e :: B).modify (((0 + A.length : Nat) : Int)).toNat (fun e => { e with dead := true }) = A ++ { e with dead := true } :: B := by
      rw [show (((0 + A.length : Nat) : Int)).toNat = A.length by omega]
      clear hA hB1 hB hAB hA' hB' hfe he hne hf
      induction A with
      | nil => rfl
      | cons a A ih => simp only [List.cons_append, List.length_cons, List.modify_succ_cons, ih]
    rw [hm]
    refine ⟨by simp [nm], fun x => ⟨fun hx => ?_, ?_⟩⟩
    · rcases List.mem_append.1 hx with hx | hx
      · exact ⟨x, by simp [hx], by rw [if_neg (hA' x hx)]⟩
      · rcases List.mem_cons.1 hx with rfl | hx
        · exact ⟨e, by simp, by rw [if_pos hne]⟩
        · exact ⟨x, by simp [hx], by rw [if_neg (hB' x hx)]⟩
    · rintro ⟨y, hy, rfl⟩
      rcases List.mem_append.1 hy with hy | hy
      · rw [if_neg (hA' y hy)]; simp [hy]
      · rcases List.mem_cons.1 hy with rfl | hy
        · rw [if_pos hne]; simp
        · rw [if_neg (hB' y hy)]; simp [hy]
  · rw [if_neg hf]
    refine ⟨rfl, fun x => ⟨fun hx => ⟨x, hx, ?_⟩, ?_⟩⟩
    · rw [if_neg (fun hn => hf ((find_iff c p es).2 ⟨x, hx, hn⟩))]
    · rintro ⟨y, hy, rfl⟩
      rw [if_neg (fun hn => hf ((find_iff c p es).2 ⟨y, hy, hn⟩))]; exact hy

/-- P8, a deletion. -/
theorem View.del {H : List Ope} {K : Nat → Nat} {row : List El} (v : View H K row) (h : HistOk H) {o : Ope} (ho : o ∈ H) (hi : o.ins = false) (hn : o.num = K o.peer + 1) (hs : ∀ j, sn o j ≤ K j) :
    View H (bump K o.peer) (killEl row o.nclock o.npeer) := by
  obtain ⟨hnm, hmem⟩ := killEl_mem row o.nclock o.npeer v.row.names
  have hname : ∀ (e : El), nm (if nm e = (o.nclock, o.npeer) then { e with dead := true } else e) = nm e := by
    intro e; split <;> rfl
  refine ⟨v.bump_le h ho hn, v.bump_causal h ho hn hs, ?_, ?_, ?_⟩
  · refine ⟨fun e he => ?_, ?_⟩
    · obtain ⟨y, hy, rfl⟩ := (hmem e).1 he
      rw [hname]; exact v.row.last y hy
    · have : (killEl row o.nclock o.npeer).map (fun e => pathOf H (nm e)) = row.map fun e => pathOf H (nm e) := by
        have e : ∀ l : List El, (l.map fun e => pathOf H (nm e)) = (l.map nm).map (pathOf H) := fun l => by rw [List.map_map]; rfl
        rw [e, e, hnm]
      rw [this]; exact v.row.row
  · intro e he
    obtain ⟨y, hy, rfl⟩ := (hmem e).1 he
    obtain ⟨q, hq, h1, h2, h3, h4, h5⟩ := v.mem y hy
    refine ⟨q, hq, h1, (bump_iff h ho hq hn).2 (Or.inr h2), by rw [hname]; exact h3, by split <;> exact h4, ?_⟩
    rw [hname]
    constructor
    · intro hh
      by_cases ht : nm y = (o.nclock, o.npeer)
      · exact ⟨o, ho, hi, (bump_iff h ho ho hn).2 (Or.inl rfl), ht.symm⟩
      · rw [if_neg ht] at hh
        obtain ⟨d, hd, h6, h7, h8⟩ := h5.1 hh
        exact ⟨d, hd, h6, (bump_iff h ho hd hn).2 (Or.inr h7), h8⟩
    · rintro ⟨d, hd, h6, h7, h8⟩
      rcases (bump_iff h ho hd hn).1 h7 with rfl | h7
      · rw [if_pos (show nm y = (d.nclock, d.npeer) from h8.symm)]
      · have := h5.2 ⟨d, hd, h6, h7, h8⟩
        split
        · rfl
        · exact this
  · intro q hq hqi hk
    rcases (bump_iff h ho hq hn).1 hk with rfl | hk
    · rw [hi] at hqi; cases hqi
    · obtain ⟨e, he, hne⟩ := v.all q hq hqi hk
      exact ⟨_, (hmem _).2 ⟨e, he, rfl⟩, by rw [hname]; exact hne⟩

/-- WHO KNOWS THE SAME HAS THE SAME ROW. -/
theorem View.alike {H : List Ope} {K : Nat → Nat} {r s : List El} (h : HistOk H) (v : View H K r) (u : View H K s) : r = s := by
  have sub : ∀ {a b : List El}, View H K a → View H K b → ∀ x ∈ a, x ∈ b := by
    intro a b va vb x hx
    obtain ⟨q, hq, h1, h2, h3, h4, h5⟩ := va.mem x hx
    obtain ⟨e, he, hne⟩ := vb.all q hq h1 h2
    obtain ⟨q', hq', _, _, h3', h4', h5'⟩ := vb.mem e he
    have hxe : nm x = nm e := by rw [hne, h3]
    have : q' = q := h.inj_name hq' hq (by rw [h3', hne])
    subst this
    have : x = e := by
      obtain ⟨xc, xp, xch, xd⟩ := x
      obtain ⟨ec, ep, ech, ed⟩ := e
      unfold nm at hxe
      simp only [Prod.mk.injEq] at hxe
      obtain ⟨rfl, rfl⟩ := hxe
      simp only at h4 h4'
      subst h4 h4'
      have hdd : xd = true ↔ ed = true := h5.trans h5'.symm
      have : xd = ed := by
        cases xd with
        | true => exact (hdd.1 rfl).symm
        | false =>
          cases ed with
          | true => exact hdd.2 rfl
          | false => rfl
      rw [this]
    rw [this]; exact he
  have hp : (r.map fun e => pathOf H (nm e)) = s.map fun e => pathOf H (nm e) := by
    refine sorted_unique v.row.row.sorted u.row.row.sorted (fun x => ?_)
    simp only [List.mem_map]
    constructor
    · rintro ⟨e, he, rfl⟩; exact ⟨e, sub v u e he, rfl⟩
    · rintro ⟨e, he, rfl⟩; exact ⟨e, sub u v e he, rfl⟩
  -- the paths tell the elements
  have inj : ∀ (a b : List El), (∀ x ∈ a, x ∈ r) → (∀ x ∈ b, x ∈ r) → (a.map fun e => pathOf H (nm e)) = (b.map fun e => pathOf H (nm e)) → a = b := by
    intro a
    induction a with
    | nil => intro b _ _ hh; cases b with
      | nil => rfl
      | cons y b => cases hh
    | cons x a ih =>
      intro b ha hb hh
      cases b with
      | nil => cases hh
      | cons y b =>
        simp only [List.map_cons, List.cons.injEq] at hh
        have hx := ha x (by simp)
        have hy := hb y (by simp)
        have hn : nm x = nm y := by rw [← (v.row.last x hx).2, hh.1, (v.row.last y hy).2]
        have hxy : x = y := by
          have hnd := v.row.names
          obtain ⟨A, B, hr⟩ := List.append_of_mem hx
          rw [hr] at hnd hy
          rw [List.map_append, List.map_cons, List.nodup_append, List.nodup_cons] at hnd
          rcases List.mem_append.1 hy with h1 | h1
          · exact absurd hn.symm (hnd.2.2 (nm y) (List.mem_map_of_mem h1) (nm x) (by simp))
          · rcases List.mem_cons.1 h1 with h1 | h1
            · exact h1.symm
            · exact absurd (List.mem_map_of_mem (f := nm) h1) (by rw [← hn]; exact hnd.2.1.1)
        subst hxy
        rw [ih b (fun z hz => ha z (by simp [hz])) (fun z hz => hb z (by simp [hz])) hh.2]
  exact inj r s (fun x hx => hx) (fun x hx => sub u v x hx) hp

/-- The row stands in the tree's order. -/
theorem View.ordered {H : List Ope} {K : Nat → Nat} {r : List El} (v : View H K r) : r.Pairwise fun a b => pbefore (pathOf H (nm a)) (pathOf H (nm b)) := by
  have := v.row.row.sorted
  rwa [List.pairwise_map] at this

end Go.Chorus
