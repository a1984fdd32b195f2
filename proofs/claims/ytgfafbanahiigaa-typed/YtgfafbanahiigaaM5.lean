/- A peer as the document has it (P5 to P9), and that it keeps its view of what the group has made; of no program. -/
import Derived.Test.YtgfafbanahiigaaM4
set_option linter.unusedVariables false
set_option linter.unusedSimpArgs false
namespace Go.Chorus

/-- A peer: its number, its clock, how many of each peer's operations were delivered, its row, what waits. -/
structure Pr where
  me : Nat
  clock : Nat
  known : List Nat
  row : List El
  held : List Ope
  log : List (List Ope)

def Pr.k (s : Pr) (j : Nat) : Nat := s.known.getD j 0

/-- P8. -/
def Pr.apply (s : Pr) (o : Ope) : Pr :=
  { s with clock := max s.clock o.clock, known := s.known.set o.peer (s.k o.peer + 1), row := if o.ins then insertEl s.row o.clock o.peer o.nclock o.npeer o.char else killEl s.row o.nclock o.npeer, log := s.log.modify o.peer (· ++ [o]) }

/-- P9: can it be delivered? -/
def Pr.can (s : Pr) (o : Ope) : Bool := decide (o.num = s.k o.peer + 1) && (List.range s.known.length).all fun j => decide (sn o j ≤ s.k j)

/-- Of those that wait and can be delivered that of the least peer: its place. -/
def bestGo (s : Pr) : List Ope → Nat → Option (Nat × Ope) → Option (Nat × Ope)
  | [], _, b => b
  | o :: r, i, b => bestGo s r (i + 1) (if s.can o = true ∧ (∀ x, b = some x → o.peer < x.2.peer) then some (i, o) else b)

def Pr.best (s : Pr) : Option (Nat × Ope) := bestGo s s.held 0 none

/-- What waits and can be delivered, again and again: how many. -/
def settle : Nat → Pr → Pr × Nat
  | 0, s => (s, 0)
  | f + 1, s =>
    match s.best with
    | none => (s, 0)
    | some (i, o) => let t := settle f (({ s with held := s.held.eraseIdx i } : Pr).apply o); (t.1, t.2 + 1)

/-- P8, P9: an operation, and what can be delivered behind it: how many. -/
def Pr.deliver (s : Pr) (o : Ope) : Pr × Nat := let t := settle s.held.length (s.apply o); (t.1, t.2 + 1)

/-- P7, of one packet that is right: how many, and which error. -/
def Pr.one (s : Pr) (o : Ope) : Pr × Nat × Int :=
  if o.peer = s.me ∧ s.k s.me < o.num then (s, 0, 6)
  else if o.num ≤ s.k o.peer ∨ (∃ q ∈ s.held, q.peer = o.peer ∧ q.num = o.num) then (s, 0, 0)
  else if s.can o then ((s.deliver o).1, (s.deliver o).2, 0)
  else if 16 ≤ s.held.length then (s, 0, 5)
  else ({ s with held := s.held ++ [o] }, 0, 0)

theorem can_iff (s : Pr) (o : Ope) : s.can o = true ↔ o.num = s.k o.peer + 1 ∧ ∀ j, j < s.known.length → sn o j ≤ s.k j := by
  simp [Pr.can]

/-- What the search finds. -/
theorem bestGo_spec (s : Pr) (l : List Ope) (i : Nat) (b : Option (Nat × Ope)) (all : List Ope) (hb : ∀ x, b = some x → all[x.1]? = some x.2 ∧ s.can x.2 = true) (hl : ∀ j, l[j]? = all[i + j]?) :
    (∀ x, bestGo s l i b = some x → all[x.1]? = some x.2 ∧ s.can x.2 = true) ∧ (bestGo s l i b = none → b = none ∧ ∀ o ∈ l, s.can o = false) := by
  induction l generalizing i b with
  | nil => exact ⟨fun x hx => hb x hx, fun h => ⟨h, fun o ho => by cases ho⟩⟩
  | cons o r ih =>
    unfold bestGo
    have h0 : all[i]? = some o := by have := hl 0; simpa using this.symm
    have hl' : ∀ j, r[j]? = all[i + 1 + j]? := fun j => by have := hl (j + 1); simp at this; rw [this]; congr 1; omega
    by_cases hc : s.can o = true ∧ (∀ x, b = some x → o.peer < x.2.peer)
    · rw [if_pos hc]
      obtain ⟨h1, h2⟩ := ih (i + 1) (some (i, o)) (fun x hx => by cases hx; exact ⟨h0, hc.1⟩) hl'
      exact ⟨h1, fun hn => by have := (h2 hn).1; cases this⟩
    · rw [if_neg hc]
      obtain ⟨h1, h2⟩ := ih (i + 1) b hb hl'
      refine ⟨h1, fun hn => ?_⟩
      obtain ⟨h3, h4⟩ := h2 hn
      refine ⟨h3, fun q hq => ?_⟩
      rcases List.mem_cons.1 hq with rfl | hq
      · by_cases hq : s.can q = true
        · exact absurd ⟨hq, fun x hx => by rw [h3] at hx; cases hx⟩ hc
        · simpa using hq
      · exact h4 q hq

theorem best_some {s : Pr} {i : Nat} {o : Ope} (h : s.best = some (i, o)) : s.held[i]? = some o ∧ s.can o = true :=
  (bestGo_spec s s.held 0 none s.held (fun x hx => by cases hx) (fun j => by simp)).1 (i, o) h

theorem best_none {s : Pr} (h : s.best = none) : ∀ o ∈ s.held, s.can o = false :=
  ((bestGo_spec s s.held 0 none s.held (fun x hx => by cases hx) (fun j => by simp)).2 h).2

/-- Of each peer the operations that were delivered, by their numbers. -/
structure LogIn (N : Nat) (H : List Ope) (k : Nat → Nat) (log : List (List Ope)) : Prop where
  len : log.length = N
  each : ∀ (j : Nat) (l : List Ope), log[j]? = some l → l.length = k j ∧ ∀ (i : Nat) (o : Ope), l[i]? = some o → o ∈ H ∧ o.peer = j ∧ o.num = i + 1

theorem LogIn.more {N : Nat} {H : List Ope} {k : Nat → Nat} {log : List (List Ope)} (h : LogIn N H k log) {H' : List Ope} (hH : ∀ q ∈ H, q ∈ H') : LogIn N H' k log :=
  ⟨h.len, fun j l hl => ⟨(h.each j l hl).1, fun i o hi => ⟨hH o ((h.each j l hl).2 i o hi).1, ((h.each j l hl).2 i o hi).2⟩⟩⟩

theorem LogIn.bump {N : Nat} {H : List Ope} {k : Nat → Nat} {log : List (List Ope)} (h : LogIn N H k log) {o : Ope} (ho : o ∈ H) (hn : o.num = k o.peer + 1) : LogIn N H (bump k o.peer) (log.modify o.peer (· ++ [o])) := by
  refine ⟨by rw [List.length_modify]; exact h.len, fun j l hl => ?_⟩
  rw [List.getElem?_modify] at hl
  unfold Go.Chorus.bump
  by_cases hj : j = o.peer
  · subst hj
    cases hx : log[o.peer]? with
    | none => rw [hx] at hl; simp at hl
    | some l0 =>
      rw [hx] at hl
      simp at hl
      subst hl
      obtain ⟨a, b⟩ := h.each o.peer l0 hx
      refine ⟨by simp [a], fun i q hi => ?_⟩
      by_cases hil : i < l0.length
      · rw [List.getElem?_append_left hil] at hi
        exact b i q hi
      · rw [List.getElem?_append_right (by omega)] at hi
        have : i - l0.length = 0 := by
          by_cases h0 : i - l0.length = 0
          · exact h0
          · rw [List.getElem?_eq_none (by simp; omega)] at hi; cases hi
        rw [this] at hi
        simp at hi
        subst hi
        exact ⟨ho, rfl, by omega⟩
  · have hj' : ¬ o.peer = j := fun e => hj e.symm
    rw [if_neg hj]
    exact h.each j l (by simpa [hj'] using hl)

/-- A peer that keeps to the document, in a group of N that has made H; but for what may be delivered. -/
structure PeerIn (N : Nat) (H : List Ope) (s : Pr) : Prop where
  len : s.known.length = N
  me : s.me < N
  view : View H s.k s.row
  own : s.k s.me = cnt H s.me
  clock : ∀ q ∈ H, q.num ≤ s.k q.peer → q.clock ≤ s.clock
  held : ∀ q ∈ s.held, q ∈ H
  once : s.held.Nodup
  late : ∀ q ∈ s.held, s.k q.peer < q.num
  log : LogIn N H s.k s.log

/-- And what can be delivered does not wait. -/
def PeerOk (N : Nat) (H : List Ope) (s : Pr) : Prop := PeerIn N H s ∧ ∀ q ∈ s.held, s.can q = false

theorem k_apply (s : Pr) (o : Ope) (h : o.peer < s.known.length) : (s.apply o).k = bump s.k o.peer := by
  funext j
  unfold Pr.k Pr.apply bump
  simp only [List.getD_eq_getElem?_getD, List.getElem?_set]
  by_cases hj : j = o.peer
  · subst hj; simp [h, Pr.k]
  · rw [if_neg (fun e => hj e.symm), if_neg hj]

/-- Peers of a group. -/
def InGroup (N : Nat) (H : List Ope) : Prop := ∀ q ∈ H, q.peer < N ∧ q.seen.length ≤ N

theorem sn_beyond {N : Nat} {H : List Ope} (hg : InGroup N H) {q : Ope} (hq : q ∈ H) {j : Nat} (hj : N ≤ j) : sn q j = 0 := by
  unfold sn
  rw [List.getD_eq_getElem?_getD, List.getElem?_eq_none (by have := (hg q hq).2; omega)]; rfl

theorem can_seen {N : Nat} {H : List Ope} {s : Pr} (hg : InGroup N H) (hlen : s.known.length = N) {o : Ope} (ho : o ∈ H) (hc : s.can o = true) : ∀ j, sn o j ≤ s.k j := by
  intro j
  by_cases hj : j < N
  · exact ((can_iff s o).1 hc).2 j (by omega)
  · rw [sn_beyond hg ho (by omega)]; exact Nat.zero_le _

theorem PeerIn.apply {N : Nat} {H : List Ope} {s : Pr} (h : HistOk H) (hg : InGroup N H) (p : PeerIn N H s) {o : Ope} (ho : o ∈ H) (hnh : o ∉ s.held) (hc : s.can o = true) : PeerIn N H (s.apply o) ∧ (s.apply o).k = bump s.k o.peer := by
  have hp := (hg o ho).1
  have hk := k_apply s o (by rw [p.len]; exact hp)
  have hnum := ((can_iff s o).1 hc).1
  have hseen := can_seen hg p.len ho hc
  refine ⟨⟨?_, p.me, ?_, ?_, ?_, p.held, p.once, ?_, by rw [hk]; exact p.log.bump ho hnum⟩, hk⟩
  · show (s.known.set _ _).length = N
    rw [List.length_set]; exact p.len
  · rw [hk]
    show View H _ (if o.ins then _ else _)
    cases hi : o.ins with
    | true => exact p.view.ins h ho hi hnum hseen (p.view.dels h ho hi hnum)
    | false => exact p.view.del h ho hi hnum hseen
  · rw [hk]
    show bump s.k o.peer s.me = _
    unfold bump
    by_cases hm : s.me = o.peer
    · exfalso
      have := (h.range o ho).2.1
      have h2 := p.own
      rw [hm] at h2
      omega
    · rw [if_neg hm]; exact p.own
  · rw [hk]
    intro q hq hqk
    show q.clock ≤ max s.clock o.clock
    rcases (bump_iff h ho hq hnum).1 hqk with rfl | h1
    · exact Nat.le_max_right _ _
    · exact Nat.le_trans (p.clock q hq h1) (Nat.le_max_left _ _)
  · rw [hk]
    intro q hq
    have hq : q ∈ s.held := hq
    have h1 := p.late q hq
    by_cases hle : q.num ≤ bump s.k o.peer q.peer
    · rcases (bump_iff h ho (p.held q hq) hnum).1 hle with rfl | h2
      · exact absurd hq hnh
      · omega
    · omega

theorem mem_eraseIdx_ne {α : Type} {l : List α} {i : Nat} {o q : α} (hn : l.Nodup) (hi : l[i]? = some o) : q ∈ l.eraseIdx i ↔ q ∈ l ∧ q ≠ o := by
  obtain ⟨hlt, rfl⟩ := List.getElem?_eq_some_iff.1 hi
  rw [List.mem_eraseIdx_iff_getElem?]
  constructor
  · rintro ⟨j, hj, hq⟩
    refine ⟨List.mem_of_getElem? hq, ?_⟩
    obtain ⟨hjl, rfl⟩ := List.getElem?_eq_some_iff.1 hq
    intro he
    exact hj ((List.getElem_inj hn).1 he)
  · rintro ⟨hq, hne⟩
    obtain ⟨j, hjl, rfl⟩ := List.getElem_of_mem hq
    exact ⟨j, fun e => hne (by subst e; rfl), List.getElem?_eq_getElem hjl⟩

/-- What settling does to a peer: it keeps its view, none that can be delivered waits, known only grows, by as many as the answer says. -/
theorem settle_ok {N : Nat} {H : List Ope} (h : HistOk H) (hg : InGroup N H) : ∀ (f : Nat) (s : Pr), s.held.length ≤ f → PeerIn N H s →
    PeerIn N H (settle f s).1 ∧ (∀ q ∈ (settle f s).1.held, (settle f s).1.can q = false) ∧ (∀ q ∈ (settle f s).1.held, q ∈ s.held) ∧ (∀ j, s.k j ≤ (settle f s).1.k j) ∧ (settle f s).1.known.sum = s.known.sum + (settle f s).2 ∧ (settle f s).1.me = s.me ∧
      (∀ q ∈ s.held, q ∈ (settle f s).1.held ∨ q.num ≤ (settle f s).1.k q.peer) := by
  intro f
  induction f with
  | zero =>
    intro s hf p
    have : s.held = [] := List.length_eq_zero_iff.1 (by omega)
    refine ⟨p, ?_, fun q hq => hq, fun j => Nat.le_refl _, rfl, rfl, fun q hq => Or.inl hq⟩
    intro q hq
    unfold settle at hq
    rw [this] at hq; cases hq
  | succ f ih =>
    intro s hf p
    unfold settle
    cases hb : s.best with
    | none => exact ⟨p, best_none hb, fun q hq => hq, fun j => Nat.le_refl _, rfl, rfl, fun q hq => Or.inl hq⟩
    | some x =>
      obtain ⟨i, o⟩ := x
      simp only []
      obtain ⟨hi, hc⟩ := best_some hb
      have ho : o ∈ H := p.held o (List.mem_of_getElem? hi)
      have hlt : i < s.held.length := (List.getElem?_eq_some_iff.1 hi).1
      have p1 : PeerIn N H ({ s with held := s.held.eraseIdx i } : Pr) := ⟨p.len, p.me, p.view, p.own, p.clock, fun q hq => p.held q (List.mem_of_mem_eraseIdx hq), p.once.sublist (List.eraseIdx_sublist ..), fun q hq => p.late q (List.mem_of_mem_eraseIdx hq), p.log⟩
      obtain ⟨p2, hk⟩ := p1.apply h hg ho (fun hm => ((mem_eraseIdx_ne p.once hi).1 hm).2 rfl) hc
      have hlen : (({ s with held := s.held.eraseIdx i } : Pr).apply o).held.length ≤ f := by
        show (s.held.eraseIdx i).length ≤ f
        rw [List.length_eraseIdx_of_lt hlt]; omega
      obtain ⟨q1, q2, q3, q4, q5, q6, q7⟩ := ih _ hlen p2
      have hkb : ∀ j, s.k j ≤ bump s.k o.peer j := fun j => by unfold bump; split <;> omega
      refine ⟨q1, q2, fun q hq => List.mem_of_mem_eraseIdx (q3 q hq), fun j => Nat.le_trans (hkb j) (by have := q4 j; rw [hk] at this; exact this), ?_, q6, ?_⟩
      · rw [q5]
        have hp : o.peer < s.known.length := by rw [p.len]; exact (hg o ho).1
        have : (({ s with held := s.held.eraseIdx i } : Pr).apply o).known.sum = s.known.sum + 1 := by
          show (s.known.set o.peer (s.k o.peer + 1)).sum = _
          have key : ∀ (l : List Nat) (n : Nat), n < l.length → (l.set n (l.getD n 0 + 1)).sum = l.sum + 1 := by
            intro l
            induction l with
            | nil => intro n hn; simp at hn
            | cons a l ih =>
              intro n hn
              cases n with
              | zero => simp; omega
              | succ n =>
                simp only [List.set_cons_succ, List.sum_cons, List.getD_cons_succ]
                rw [ih n (by simpa using hn)]; omega
          exact key s.known o.peer hp
        rw [this]; omega
      · intro q hq
        by_cases hqo : q = o
        · subst hqo
          right
          have h1 := q4 q.peer
          rw [hk] at h1
          have h2 := ((can_iff s q).1 hc).1
          have h3 : bump ({ s with held := s.held.eraseIdx i } : Pr).k q.peer q.peer = s.k q.peer + 1 := by unfold bump; rw [if_pos rfl]; rfl
          rw [h3] at h1
          rw [h2]; exact h1
        · exact q7 q ((mem_eraseIdx_ne p.once hi).2 ⟨hq, hqo⟩)

/-- What P7 says of a packet that somebody of the group has made. -/
structure OneOk (N : Nat) (H : List Ope) (s : Pr) (o : Ope) (t : Pr) (n : Nat) (err : Int) : Prop where
  ok : PeerOk N H t
  me : t.me = s.me
  which : err = 0 ∨ (err = 5 ∧ n = 0 ∧ t = s)
  grow : ∀ j, s.k j ≤ t.k j
  sum : t.known.sum = s.known.sum + n
  old : o.num ≤ s.k o.peer → n = 0 ∧ err = 0 ∧ t = s
  came : s.can o = true → o.num ≤ t.k o.peer

theorem Pr.sum_apply {N : Nat} {H : List Ope} {s : Pr} (hg : InGroup N H) (p : PeerIn N H s) {o : Ope} (ho : o ∈ H) : (s.apply o).known.sum = s.known.sum + 1 := by
  have hp : o.peer < s.known.length := by rw [p.len]; exact (hg o ho).1
  show (s.known.set o.peer (s.k o.peer + 1)).sum = _
  have key : ∀ (l : List Nat) (n : Nat), n < l.length → (l.set n (l.getD n 0 + 1)).sum = l.sum + 1 := by
    intro l
    induction l with
    | nil => intro n hn; simp at hn
    | cons a l ih =>
      intro n hn
      cases n with
      | zero => simp; omega
      | succ n =>
        simp only [List.set_cons_succ, List.sum_cons, List.getD_cons_succ]
        rw [ih n (by simpa using hn)]; omega
  exact key s.known o.peer hp

theorem deliver_ok {N : Nat} {H : List Ope} {s : Pr} (h : HistOk H) (hg : InGroup N H) (p : PeerIn N H s) {o : Ope} (ho : o ∈ H) (hnh : o ∉ s.held) (hc : s.can o = true) :
    PeerOk N H (s.deliver o).1 ∧ (s.deliver o).1.me = s.me ∧ (∀ j, s.k j ≤ (s.deliver o).1.k j) ∧ (s.deliver o).1.known.sum = s.known.sum + (s.deliver o).2 ∧ o.num ≤ (s.deliver o).1.k o.peer := by
  obtain ⟨p1, hk⟩ := p.apply h hg ho hnh hc
  obtain ⟨q1, q2, q3, q4, q5, q6, q7⟩ := settle_ok h hg s.held.length (s.apply o) (Nat.le_refl _) p1
  have hs := Pr.sum_apply hg p ho
  have h2 := ((can_iff s o).1 hc).1
  rw [hk] at q4
  refine ⟨⟨q1, q2⟩, q6, fun j => Nat.le_trans (by unfold bump; split <;> omega) (q4 j), ?_, ?_⟩
  · show (settle s.held.length (s.apply o)).1.known.sum = s.known.sum + ((settle s.held.length (s.apply o)).2 + 1)
    rw [q5, hs]; omega
  · refine Nat.le_trans ?_ (q4 o.peer)
    unfold bump
    rw [if_pos rfl]; omega

theorem one_ok {N : Nat} {H : List Ope} {s : Pr} (h : HistOk H) (hg : InGroup N H) (p : PeerOk N H s) {o : Ope} (ho : o ∈ H) : OneOk N H s o (s.one o).1 (s.one o).2.1 (s.one o).2.2 := by
  have hself : OneOk N H s o s 0 0 → True := fun _ => trivial
  have hr := h.range o ho
  unfold Pr.one
  by_cases h1 : o.peer = s.me ∧ s.k s.me < o.num
  · exfalso
    have := p.1.own
    rw [← h1.1] at this h1
    omega
  · rw [if_neg h1]
    by_cases h2 : o.num ≤ s.k o.peer ∨ ∃ q ∈ s.held, q.peer = o.peer ∧ q.num = o.num
    · rw [if_pos h2]
      refine ⟨p, rfl, Or.inl rfl, fun j => Nat.le_refl _, rfl, fun _ => ⟨rfl, rfl, rfl⟩, fun hc => ?_⟩
      rcases h2 with h2 | ⟨q, hq, h3, h4⟩
      · exact h2
      · have : q = o := h.inj q (p.1.held q hq) o ho h3 (Or.inl h4)
        subst this
        rw [p.2 q hq] at hc; cases hc
    · rw [if_neg h2]
      have hnh : o ∉ s.held := fun hm => h2 (Or.inr ⟨o, hm, rfl, rfl⟩)
      have hold : ¬ o.num ≤ s.k o.peer := fun hm => h2 (Or.inl hm)
      by_cases h3 : s.can o = true
      · rw [if_pos h3]
        obtain ⟨d1, d2, d3, d4, d5⟩ := deliver_ok h hg p.1 ho hnh h3
        exact ⟨d1, d2, Or.inl rfl, d3, d4, fun hh => absurd hh hold, fun _ => d5⟩
      · rw [if_neg h3]
        by_cases h4 : 16 ≤ s.held.length
        · rw [if_pos h4]
          exact ⟨p, rfl, Or.inr ⟨rfl, rfl, rfl⟩, fun j => Nat.le_refl _, rfl, fun hh => absurd hh hold, fun hh => absurd hh h3⟩
        · rw [if_neg h4]
          refine ⟨⟨⟨p.1.len, p.1.me, p.1.view, p.1.own, p.1.clock, ?_, ?_, ?_, p.1.log⟩, ?_⟩, rfl, Or.inl rfl, fun j => Nat.le_refl _, rfl, fun hh => absurd hh hold, fun hh => absurd hh h3⟩
          · intro q hq
            rcases List.mem_append.1 hq with hq | hq
            · exact p.1.held q hq
            · rw [List.mem_singleton.1 hq]; exact ho
          · show (s.held ++ [o]).Nodup
            rw [List.nodup_append]
            refine ⟨p.1.once, by simp, fun a ha b hb => ?_⟩
            rw [List.mem_singleton.1 hb]
            intro e; subst e; exact hnh ha
          · intro q hq
            rcases List.mem_append.1 hq with hq | hq
            · exact p.1.late q hq
            · rw [List.mem_singleton.1 hq]; show s.k o.peer < o.num; omega
          · intro q hq
            rcases List.mem_append.1 hq with hq | hq
            · exact p.2 q hq
            · rw [List.mem_singleton.1 hq]
              show s.can o = false
              simpa using h3

/-- Somebody else has made one more. -/
theorem PeerOk.more {N : Nat} {H : List Ope} {s : Pr} {o : Ope} (p : PeerOk N H s) (h : HistOk (o :: H)) (hne : o.peer ≠ s.me) : PeerOk N (o :: H) s := by
  have hnum : ¬ o.num ≤ s.k o.peer := by
    match h with
    | ⟨h, num, own, made, whole, clock, pos, name⟩ => have := p.1.view.le o.peer; omega
  refine ⟨⟨p.1.len, p.1.me, p.1.view.more h, ?_, ?_, fun q hq => by simp [p.1.held q hq], p.1.once, p.1.late, p.1.log.more (fun q hq => by simp [hq])⟩, p.2⟩
  · rw [p.1.own]; simp only [cnt]; rw [if_neg hne]; omega
  · intro q hq hk
    rcases List.mem_cons.1 hq with rfl | hq
    · exact absurd hk hnum
    · exact p.1.clock q hq hk

/-- The operation that a peer makes: P5, P6. -/
def Pr.makes (s : Pr) (ins : Bool) (t : Nm) (char : Nat) : Ope := ⟨ins, s.me, s.k s.me + 1, s.clock + 1, s.known, t.1, t.2, char⟩

theorem makes_hist {N : Nat} {H : List Ope} {s : Pr} (h : HistOk H) (p : PeerOk N H s) (ins : Bool) (t : Nm) (char : Nat) (ht : (ins = true ∧ t = (0, 0)) ∨ ∃ e ∈ s.row, nm e = t) : HistOk (s.makes ins t char :: H) := by
  have hsn : ∀ j, sn (s.makes ins t char) j = s.k j := fun j => rfl
  refine HistOk.cons h ?_ ?_ ?_ ?_ ?_ ?_ ?_
  · show s.k s.me + 1 = cnt H s.me + 1
    rw [p.1.own]
  · show sn (s.makes ins t char) s.me = cnt H s.me
    rw [hsn, p.1.own]
  · intro j; rw [hsn]; exact p.1.view.le j
  · intro q hq hk j; rw [hsn] at hk ⊢; exact p.1.view.causal q hq hk j
  · intro q hq hk
    rw [hsn] at hk
    have := p.1.clock q hq hk
    show q.clock < s.clock + 1
    omega
  · show 0 < s.clock + 1
    omega
  · rcases ht with ⟨h1, h2⟩ | ⟨e, he, h2⟩
    · exact Or.inl ⟨h1, h2⟩
    · obtain ⟨q, hq, h3, h4, h5, _⟩ := p.1.view.mem e he
      exact Or.inr ⟨q, hq, h3, by rw [hsn]; exact h4, by rw [h5, h2]; rfl⟩

/-- A peer makes an operation and delivers it to itself. -/
theorem write_ok {N : Nat} {H : List Ope} {s : Pr} (h : HistOk H) (hg : InGroup N H) (p : PeerOk N H s) (ins : Bool) (t : Nm) (char : Nat) (ht : (ins = true ∧ t = (0, 0)) ∨ ∃ e ∈ s.row, nm e = t) :
    HistOk (s.makes ins t char :: H) ∧ InGroup N (s.makes ins t char :: H) ∧ PeerOk N (s.makes ins t char :: H) (s.deliver (s.makes ins t char)).1 := by
  obtain ⟨o, ho⟩ : ∃ o, s.makes ins t char = o := ⟨_, rfl⟩
  have hh := makes_hist h p ins t char ht
  have hgg : InGroup N (s.makes ins t char :: H) := by
    intro q hq
    rcases List.mem_cons.1 hq with rfl | hq
    · exact ⟨p.1.me, Nat.le_of_eq p.1.len⟩
    · exact hg q hq
  refine ⟨hh, hgg, ?_⟩
  have hpe : o.peer = s.me := by rw [← ho]; rfl
  have hnum : o.num = s.k s.me + 1 := by rw [← ho]; rfl
  have hsn : ∀ j, sn o j = s.k j := fun j => by rw [← ho]; rfl
  have hcl : o.clock = s.clock + 1 := by rw [← ho]; rfl
  rw [ho] at hh hgg ⊢
  have hk := k_apply s o (by rw [p.1.len, hpe]; exact p.1.me)
  have hom : o ∈ o :: H := by simp
  have hv := p.1.view.more hh
  have hn1 : o.num = s.k o.peer + 1 := by rw [hpe]; exact hnum
  have hseen : ∀ j, sn o j ≤ s.k j := fun j => by rw [hsn]; exact Nat.le_refl _
  have hnh : o ∉ s.held := by
    intro hm
    have h1 := h.range o (p.1.held o hm)
    have h2 := p.1.own
    rw [hpe] at h1; omega
  have p1 : PeerIn N (o :: H) (s.apply o) := by
    refine ⟨?_, p.1.me, ?_, ?_, ?_, fun q hq => by simp [p.1.held q hq], p.1.once, ?_, by rw [hk]; exact (p.1.log.more (fun q hq => by simp [hq])).bump hom hn1⟩
    · show (s.known.set _ _).length = N
      rw [List.length_set]; exact p.1.len
    · rw [hk]
      show View _ _ (if o.ins then _ else _)
      cases hi : o.ins with
      | true => exact hv.ins hh hom hi hn1 hseen (hv.dels hh hom hi hn1)
      | false => exact hv.del hh hom hi hn1 hseen
    · rw [hk]
      show bump s.k o.peer s.me = cnt (o :: H) s.me
      unfold bump
      rw [if_pos hpe.symm, p.1.own]
      simp only [cnt, hpe, if_true]; omega
    · rw [hk]
      intro q hq hqk
      show q.clock ≤ max s.clock o.clock
      rcases (bump_iff hh hom hq hn1).1 hqk with rfl | h1
      · exact Nat.le_max_right _ _
      · rcases List.mem_cons.1 hq with rfl | hq
        · exact Nat.le_max_right _ _
        · exact Nat.le_trans (p.1.clock q hq h1) (Nat.le_max_left _ _)
    · rw [hk]
      intro q hq
      have hq : q ∈ s.held := hq
      have h1 := p.1.late q hq
      by_cases hle : q.num ≤ bump s.k o.peer q.peer
      · rcases (bump_iff hh hom (by simp [p.1.held q hq]) hn1).1 hle with rfl | h2
        · exact absurd hq hnh
        · omega
      · omega
  obtain ⟨q1, q2, _⟩ := settle_ok hh hgg s.held.length (s.apply o) (Nat.le_refl _) p1
  exact ⟨q1, q2⟩

end Go.Chorus
