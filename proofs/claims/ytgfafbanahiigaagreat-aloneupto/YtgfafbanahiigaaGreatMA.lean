import Derived.Test.YtgfafbanahiigaaGreatSpec
set_option linter.unusedVariables false
set_option linter.unusedSimpArgs false
namespace Go.Chorus
abbrev Nm := Nat × Nat
def nlt (a b : Nm) : Prop := a.1 < b.1 ∨ (a.1 = b.1 ∧ a.2 < b.2)
def pbefore : List Nm → List Nm → Prop
 | _, [] => False
 | [], _ :: _ => True
 | a :: p, b :: q => nlt b a ∨ (a = b ∧ pbefore p q)
theorem behind {p x : List Nm} (h : pbefore p x) : (∃ c r, x = p ++ c :: r) ∨ (∃ q a s b r, p = q ++ a :: s ∧ x = q ++ b :: r ∧ nlt b a) := by
 induction p generalizing x with
 | nil =>
  cases x with
  | nil => simp [pbefore] at h
  | cons c r => exact Or.inl ⟨c, r, rfl⟩
 | cons a p ih =>
  cases x with
  | nil => simp [pbefore] at h
  | cons b x =>
   simp only [pbefore] at h
   rcases h with h | ⟨rfl, h⟩
   ·exact Or.inr ⟨[], a, p, b, x, rfl, rfl, h⟩
   ·rcases ih h with ⟨c, r, rfl⟩ | ⟨q, a', s, b', r, rfl, rfl, hb⟩
    ·exact Or.inl ⟨c, r, rfl⟩
    ·exact Or.inr ⟨a :: q, a', s, b', r, rfl, rfl, hb⟩
def nm (e : El) : Nm := (e.clock, e.peer)
def sn (o : Ope) (j : Nat) : Nat := o.seen.getD j 0
structure Pr where
 me : Nat
 clock : Nat
 known : List Nat
 row : List El
 held : List Ope
 log : List (List Ope)
def Pr.k (s : Pr) (j : Nat) : Nat := s.known.getD j 0
def Pr.apply (s : Pr) (o : Ope) : Pr :=
 { s with clock := max s.clock o.clock, known := s.known.set o.peer (s.k o.peer + 1), row := if o.ins then insertEl s.row o.clock o.peer o.nclock o.npeer o.char else killEl s.row o.nclock o.npeer, log := s.log.modify o.peer (· ++ [o]) }
def Pr.can (s : Pr) (o : Ope) : Bool := decide (o.num = s.k o.peer + 1) && (List.range s.known.length).all fun j => decide (sn o j ≤ s.k j)
def bestGo (s : Pr) : List Ope → Nat → Option (Nat × Ope) → Option (Nat × Ope)
 | [], _, b => b
 | o :: r, i, b => bestGo s r (i + 1) (if s.can o = true ∧ (∀ x, b = some x → o.peer < x.2.peer) then some (i, o) else b)
def Pr.best (s : Pr) : Option (Nat × Ope) := bestGo s s.held 0 none
def settle : Nat → Pr → Pr × Nat
 | 0, s => (s, 0)
 | f + 1, s =>
  match s.best with
  | none => (s, 0)
  | some (i, o) => let t := settle f (({ s with held := s.held.eraseIdx i } : Pr).apply o); (t.1, t.2 + 1)
def Pr.deliver (s : Pr) (o : Ope) : Pr × Nat := let t := settle s.held.length (s.apply o); (t.1, t.2 + 1)
theorem can_iff (s : Pr) (o : Ope) : s.can o = true ↔ o.num = s.k o.peer + 1 ∧ ∀ j, j < s.known.length → sn o j ≤ s.k j := by
 simp [Pr.can]
theorem bestGo_spec (s : Pr) (l : List Ope) (i : Nat) (b : Option (Nat × Ope)) (all : List Ope) (hb : ∀ x, b = some x → all[x.1]? = some x.2 ∧ s.can x.2 = true) (hl : ∀ j, l[j]? = all[i + j]?) :
  (∀ x, bestGo s l i b = some x → all[x.1]? = some x.2 ∧ s.can x.2 = true) ∧ (bestGo s l i b = none → b = none ∧ ∀ o ∈ l, s.can o = false) := by
 induction l generalizing i b with
 | nil => exact ⟨fun x hx => hb x hx, fun h => ⟨h, fun o ho => by cases ho⟩⟩
 | cons o r ih =>
  unfold bestGo
  have h0 : all[i]? = some o := by have := hl 0; simpa using this.symm
  have hl' : ∀ j, r[j]? = all[i + 1 + j]? := fun j => by have := hl (j + 1); simp at this; rw [this]; congr 1; omega
  by_cases hc : s.can o = true ∧ (∀ x, b = some x → o.peer < x.2.peer)
  ·rw [if_pos hc]
   obtain ⟨h1, h2⟩ := ih (i + 1) (some (i, o)) (fun x hx => by cases hx; exact ⟨h0, hc.1⟩) hl'
   exact ⟨h1, fun hn => by have := (h2 hn).1; cases this⟩
  ·rw [if_neg hc]
   obtain ⟨h1, h2⟩ := ih (i + 1) b hb hl'
   refine ⟨h1, fun hn => ?_⟩
   obtain ⟨h3, h4⟩ := h2 hn
   refine ⟨h3, fun q hq => ?_⟩
   rcases List.mem_cons.1 hq with rfl | hq
   ·by_cases hq : s.can q = true
    ·exact absurd ⟨hq, fun x hx => by rw [h3] at hx; cases hx⟩ hc
    ·simpa using hq
   ·exact h4 q hq
theorem best_some {s : Pr} {i : Nat} {o : Ope} (h : s.best = some (i, o)) : s.held[i]? = some o ∧ s.can o = true :=
 (bestGo_spec s s.held 0 none s.held (fun x hx => by cases hx) (fun j => by simp)).1 (i, o) h
theorem best_none {s : Pr} (h : s.best = none) : ∀ o ∈ s.held, s.can o = false :=
 ((bestGo_spec s s.held 0 none s.held (fun x hx => by cases hx) (fun j => by simp)).2 h).2
def Pr.makes (s : Pr) (ins : Bool) (t : Nm) (char : Nat) : Ope := ⟨ins, s.me, s.k s.me + 1, s.clock + 1, s.known, t.1, t.2, char⟩
def firstGo (s : Pr) : List Ope → Nat → Option (Nat × Ope)
 | [], _ => none
 | o :: r, i => if s.can o = true then some (i, o) else firstGo s r (i + 1)
def Pr.firstCan (s : Pr) : Option (Nat × Ope) := firstGo s s.held 0
def settleF : Nat → Pr → Pr × Nat
 | 0, s => (s, 0)
 | f + 1, s =>
  match s.firstCan with
  | none => (s, 0)
  | some (i, o) => let t := settleF f (({ s with held := s.held.eraseIdx i } : Pr).apply o); (t.1, t.2 + 1)
def Pr.deliverF (s : Pr) (o : Ope) : Pr × Nat := let t := settleF s.held.length (s.apply o); (t.1, t.2 + 1)
def InRow (l : List Ope) : Prop := l.Pairwise fun a b => a.peer ≤ b.peer ∧ ¬ (a.peer = b.peer ∧ a.num = b.num)
theorem inRow_inj {l : List Ope} (h : InRow l) {a b : Ope} (ha : a ∈ l) (hb : b ∈ l) (h1 : a.peer = b.peer) (h2 : a.num = b.num) : a = b := by
 induction l with
 | nil => cases ha
 | cons x r ih =>
  obtain ⟨hx, hr⟩ := List.pairwise_cons.1 h
  rcases List.mem_cons.1 ha with e1 | ha1
  ·rcases List.mem_cons.1 hb with e2 | hb1
   ·rw [e1, e2]
   ·subst e1; exact absurd ⟨h1, h2⟩ (hx b hb1).2
  ·rcases List.mem_cons.1 hb with e2 | hb1
   ·subst e2; exact absurd ⟨h1.symm, h2.symm⟩ (hx a ha1).2
   ·exact ih hr ha1 hb1
structure Alk (s t : Pr) : Prop where
 me : s.me = t.me
 clock : s.clock = t.clock
 known : s.known = t.known
 row : s.row = t.row
 held : s.held.Perm t.held
 log : s.log = t.log
theorem Alk.k {s t : Pr} (h : Alk s t) (j : Nat) : s.k j = t.k j := by unfold Pr.k; rw [h.known]
theorem Alk.can {s t : Pr} (h : Alk s t) (o : Ope) : s.can o = t.can o := by unfold Pr.can Pr.k; rw [h.known]
theorem firstGo_spec (s : Pr) (l : List Ope) (hl : InRow l) (i : Nat) :
  (∀ x, firstGo s l i = some x → i ≤ x.1 ∧ l[x.1 - i]? = some x.2 ∧ s.can x.2 = true ∧ ∀ q ∈ l, s.can q = true → x.2.peer ≤ q.peer) ∧ (firstGo s l i = none → ∀ q ∈ l, s.can q = false) := by
 induction l generalizing i with
 | nil => exact ⟨fun x hx => (by cases hx), fun _ q hq => (by cases hq)⟩
 | cons o r ih =>
  obtain ⟨hx, hr⟩ := List.pairwise_cons.1 hl
  unfold firstGo
  by_cases hc : s.can o = true
  ·rw [if_pos hc]
   refine ⟨fun x hx' => ?_, fun h => by cases h⟩
   cases hx'
   refine ⟨Nat.le_refl _, by simp, hc, fun q hq _ => ?_⟩
   rcases List.mem_cons.1 hq with rfl | hq
   ·exact Nat.le_refl _
   ·exact (hx q hq).1
  ·rw [if_neg hc]
   obtain ⟨h1, h2⟩ := ih hr (i + 1)
   refine ⟨fun x hx' => ?_, fun hn q hq => ?_⟩
   ·obtain ⟨a, b, c, d⟩ := h1 x hx'
    refine ⟨by omega, ?_, c, fun q hq hqc => ?_⟩
    ·have : x.1 - i = (x.1 - (i + 1)) + 1 := by omega
     rw [this, List.getElem?_cons_succ]; exact b
    ·rcases List.mem_cons.1 hq with rfl | hq
     ·exact absurd hqc hc
     ·exact d q hq hqc
   ·rcases List.mem_cons.1 hq with rfl | hq
    ·simpa using hc
    ·exact h2 hn q hq
theorem bestGo_least (s : Pr) (l : List Ope) (i : Nat) (b : Option (Nat × Ope)) :
  ∀ x, bestGo s l i b = some x → (∀ q ∈ l, s.can q = true → x.2.peer ≤ q.peer) ∧ (∀ y, b = some y → x.2.peer ≤ y.2.peer) := by
 induction l generalizing i b with
 | nil => intro x hx; exact ⟨fun q hq => (by cases hq), fun y hy => by unfold bestGo at hx; rw [hx] at hy; cases hy; exact Nat.le_refl _⟩
 | cons o r ih =>
  intro x hx
  unfold bestGo at hx
  by_cases hc : s.can o = true ∧ (∀ x, b = some x → o.peer < x.2.peer)
  ·rw [if_pos hc] at hx
   obtain ⟨h1, h2⟩ := ih _ _ x hx
   have h3 := h2 _ rfl
   refine ⟨fun q hq hqc => ?_, fun y hy => Nat.le_trans h3 (Nat.le_of_lt (hc.2 y hy))⟩
   rcases List.mem_cons.1 hq with rfl | hq
   ·exact h3
   ·exact h1 q hq hqc
  ·rw [if_neg hc] at hx
   obtain ⟨h1, h2⟩ := ih _ _ x hx
   refine ⟨fun q hq hqc => ?_, h2⟩
   rcases List.mem_cons.1 hq with rfl | hq
   ·by_cases hb : ∀ x, b = some x → q.peer < x.2.peer
    ·exact absurd ⟨hqc, hb⟩ hc
    ·simp only [Classical.not_forall] at hb
     obtain ⟨y, hy, hlt⟩ := hb
     exact Nat.le_trans (h2 y hy) (by omega)
   ·exact h1 q hq hqc
theorem first_best {s t : Pr} (h : Alk s t) (hr : InRow s.held) : (s.firstCan = none → t.best = none) ∧ (∀ i o, s.firstCan = some (i, o) → s.held[i]? = some o ∧ s.can o = true ∧ ∃ j, t.best = some (j, o) ∧ t.held[j]? = some o) := by
 obtain ⟨f1, f2⟩ := firstGo_spec s s.held hr 0
 refine ⟨fun hn => ?_, fun i o ho => ?_⟩
 ·cases hb : t.best with
  | none => rfl
  | some x =>
   obtain ⟨j, o⟩ := x
   obtain ⟨hj, hc⟩ := best_some hb
   have := f2 hn o (h.held.mem_iff.2 (List.mem_of_getElem? hj))
   rw [h.can, hc] at this; cases this
 ·obtain ⟨_, b, c, d⟩ := f1 (i, o) ho
  simp only [Nat.sub_zero] at b
  refine ⟨b, c, ?_⟩
  have hmem : o ∈ t.held := h.held.mem_iff.1 (List.mem_of_getElem? b)
  cases hb : t.best with
  | none =>
   have := best_none hb o hmem
   rw [← h.can] at this
   have c' : s.can o = true := c
   rw [c'] at this; cases this
  | some x =>
   obtain ⟨j, q⟩ := x
   obtain ⟨hj, hc⟩ := best_some hb
   have l1 := (bestGo_least t t.held 0 none (j, q) hb).1 o hmem (by rw [← h.can]; exact c)
   have hq : q ∈ s.held := h.held.mem_iff.2 (List.mem_of_getElem? hj)
   have l2 := d q hq (by rw [h.can]; exact hc)
   have hp : o.peer = q.peer := Nat.le_antisymm l2 l1
   have n1 := ((can_iff s o).1 c).1
   have n2 := ((can_iff t q).1 hc).1
   have : o = q := inRow_inj hr (List.mem_of_getElem? b) hq hp (by rw [n1, n2, hp, h.k])
   subst this
   exact ⟨j, rfl, hj⟩
theorem perm_eraseIdx {α : Type} {l m : List α} (h : l.Perm m) {i j : Nat} {o : α} (hi : l[i]? = some o) (hj : m[j]? = some o) : (l.eraseIdx i).Perm (m.eraseIdx j) := by
 have key : ∀ (l : List α) (i : Nat), l[i]? = some o → (o :: l.eraseIdx i).Perm l := by
  intro l
  induction l with
  | nil => intro i hi; simp at hi
  | cons x r ih =>
   intro i hi
   cases i with
   | zero => simp at hi; subst hi; exact List.Perm.refl _
   | succ i =>
    simp only [List.eraseIdx_cons_succ]
    exact (List.Perm.swap x o _).trans ((ih i (by simpa using hi)).cons x)
 exact List.Perm.cons_inv ((key l i hi).trans (h.trans (key m j hj).symm))
theorem settleF_sim : ∀ (f : Nat) (s t : Pr), Alk s t → InRow s.held → Alk (settleF f s).1 (settle f t).1 ∧ InRow (settleF f s).1.held ∧ (settleF f s).2 = (settle f t).2 := by
 intro f
 induction f with
 | zero => intro s t h hr; exact ⟨h, hr, rfl⟩
 | succ f ih =>
  intro s t h hr
  obtain ⟨f1, f2⟩ := first_best h hr
  unfold settleF settle
  cases hf : s.firstCan with
  | none => rw [f1 hf]; exact ⟨h, hr, rfl⟩
  | some x =>
   obtain ⟨i, o⟩ := x
   obtain ⟨hi, hc, j, hb, hj⟩ := f2 i o hf
   rw [hb]
   simp only []
   have hA : Alk (({ s with held := s.held.eraseIdx i } : Pr).apply o) (({ t with held := t.held.eraseIdx j } : Pr).apply o) := by
    refine ⟨h.me, ?_, ?_, ?_, perm_eraseIdx h.held hi hj, by show s.log.modify _ _ = t.log.modify _ _; rw [h.log]⟩
    ·show max s.clock o.clock = max t.clock o.clock
     rw [h.clock]
    ·show s.known.set o.peer (s.k o.peer + 1) = t.known.set o.peer (t.k o.peer + 1)
     rw [h.known, h.k]
    ·show (if o.ins then insertEl s.row _ _ _ _ _ else killEl s.row _ _) = _
     rw [h.row]; rfl
   have hR : InRow (({ s with held := s.held.eraseIdx i } : Pr).apply o).held := List.Pairwise.sublist (List.eraseIdx_sublist ..) hr
   obtain ⟨a, b, c⟩ := ih _ _ hA hR
   exact ⟨a, b, by rw [c]⟩
end Go.Chorus
