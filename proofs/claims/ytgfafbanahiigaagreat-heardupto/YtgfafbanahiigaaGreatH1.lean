import Derived.Test.YtgfafbanahiigaaGreatV6
import Derived.Test.YtgfafbanahiigaaGreatMA
import Derived.Test.YtgfafbanahiigaaGreatM9
set_option linter.unusedVariables false
set_option linter.unusedSimpArgs false
namespace Go.Proofs.YtgfafbanahiigaaGreat
open Go.RowKit Go.Chorus

/-- What was delivered, in memory: the block of the lists, the lists as values, and what is in them. -/
structure Log where
  b : Nat
  vs : List Value
  ms : List (List MOp)

/-- Its numbers lie at its g. -/
def SeenAt (w : World) (m : MOp) : Prop := ∃ cur, w.heap[m.g]? = some (.cells cur 63 (0, 0)) ∧ ∀ (i n : Nat), m.o.seen[i]? = some n → cur[i]? = some (.int .u32 (n : Int))

theorem SeenAt.keep {S : Nat → Prop} {w w' : World} {m : MOp} (h : SeenAt w m) (k : Kept S w w') (hS : ¬ S m.g) : SeenAt w' m := by
  obtain ⟨cur, a, b⟩ := h
  exact ⟨cur, k.heap a hS, b⟩

structure LogAt (w : World) (K : Log) (known : List Nat) : Prop where
  block : w.heap[K.b]? = some (.cells K.vs.toArray 67 (0, 0))
  lenV : K.vs.length = known.length
  count : known = K.ms.map List.length
  rows : ∀ (i : Nat) (v : Value) (l : List MOp), K.vs[i]? = some v → K.ms[i]? = some l → w.ownsRow 0 115 8 v l.length (opsCells l)
  apart : ∀ (i j : Nat) (v u : Value) (b : Nat), K.vs[i]? = some v → K.vs[j]? = some u → v.ownBlock = some b → u.ownBlock = some b → i = j
  seen : ∀ l ∈ K.ms, ∀ m ∈ l, SeenAt w m

/-- The blocks that it may write. -/
def Log.Foot (K : Log) (k : Nat) : Prop := k = K.b ∨ ∃ v ∈ K.vs, v.ownBlock = some k

/-- The blocks of the numbers. -/
def Log.Seen (K : Log) (k : Nat) : Prop := ∃ l ∈ K.ms, ∃ m ∈ l, m.g = k

theorem LogAt.lenM {w : World} {K : Log} {known : List Nat} (h : LogAt w K known) : K.ms.length = known.length := by
  have := congrArg List.length h.count
  simpa using this.symm

theorem LogAt.at {w : World} {K : Log} {known : List Nat} (h : LogAt w K known) {v : Value} (hv : v ∈ K.vs) : ∃ l ∈ K.ms, w.ownsRow 0 115 8 v l.length (opsCells l) := by
  obtain ⟨i, hi, rfl⟩ := List.getElem_of_mem hv
  have hl : i < K.ms.length := by rw [h.lenM, ← h.lenV]; exact hi
  exact ⟨K.ms[i], List.getElem_mem _, h.rows i _ _ (List.getElem?_eq_getElem hi) (List.getElem?_eq_getElem hl)⟩

theorem LogAt.keep {S : Nat → Prop} {w w' : World} {K : Log} {known : List Nat} (h : LogAt w K known) (k : Kept S w w') (h1 : ∀ b, K.Foot b → ¬ S b) (h2 : ∀ b, K.Seen b → ¬ S b) : LogAt w' K known :=
  ⟨k.heap h.block (h1 _ (Or.inl rfl)), h.lenV, h.count, fun i v l hv hl => ownsRow_kept (h.rows i v l hv hl) k (fun b hb => h1 b (Or.inr ⟨v, List.mem_of_getElem? hv, hb⟩)), h.apart, fun l hl m hm => (h.seen l hl m hm).keep k (h2 _ ⟨l, hl, m, hm, rfl⟩)⟩

theorem LogAt.quiet {w w' : World} {K : Log} {known : List Nat} (h : LogAt w K known) (k : Kept (fun _ => False) w w') : LogAt w' K known := h.keep k (fun _ _ h => h) (fun _ _ h => h)

theorem LogAt.lt {w : World} {K : Log} {known : List Nat} (h : LogAt w K known) : (∀ k, K.Foot k → k < w.heap.size) ∧ ∀ k, K.Seen k → k < w.heap.size := by
  constructor
  · rintro k (rfl | ⟨v, hv, hb⟩)
    · exact lt_of_heap h.block
    · obtain ⟨l, _, hr⟩ := h.at hv
      exact (hr.lt k hb).2
  · rintro k ⟨l, hl, m, hm, rfl⟩
    obtain ⟨cur, a, _⟩ := h.seen l hl m hm
    exact lt_of_heap a

/-- A block of another type is not one of its own. -/
theorem LogAt.off {w : World} {K : Log} {known : List Nat} (h : LogAt w K known) {b : Nat} {cs : Array Value} {t : TypeId} {f : Nat × Nat} (hb : w.heap[b]? = some (.cells cs t f)) (h1 : t ≠ 67) (h2 : t ≠ 115) : ¬ K.Foot b := by
  rintro (rfl | ⟨v, hv, hk⟩)
  · have := h.block
    rw [hb] at this
    simp at this
    exact h1 this.2.1
  · obtain ⟨l, _, hr⟩ := h.at hv
    exact own_ne hr hb h2 hk

theorem LogAt.seenOff {w : World} {K : Log} {known : List Nat} (h : LogAt w K known) {b : Nat} {cs : Array Value} {t : TypeId} {f : Nat × Nat} (hb : w.heap[b]? = some (.cells cs t f)) (h1 : t ≠ 63) : ¬ K.Seen b := by
  rintro ⟨l, hl, m, hm, rfl⟩
  obtain ⟨cur, a, _⟩ := h.seen l hl m hm
  rw [hb] at a
  simp at a
  exact h1 a.2.1

/-- One list of it is a known number long. -/
theorem LogAt.one {w : World} {K : Log} {known : List Nat} (h : LogAt w K known) {p x : Nat} (hx : known[p]? = some x) : ∃ v l, K.vs[p]? = some v ∧ K.ms[p]? = some l ∧ l.length = x ∧ w.ownsRow 0 115 8 v x (opsCells l) ∧ w.cell? ⟨K.b, p, none⟩ = some v := by
  have hp : p < known.length := (List.getElem?_eq_some_iff.1 hx).1
  have hv : p < K.vs.length := by rw [h.lenV]; exact hp
  have hl : p < K.ms.length := by rw [h.lenM]; exact hp
  have e : K.ms[p].length = x := by
    have h1 := hx
    rw [h.count, List.getElem?_map, List.getElem?_eq_getElem hl] at h1
    simpa using h1
  refine ⟨_, _, List.getElem?_eq_getElem hv, List.getElem?_eq_getElem hl, e, ?_, ?_⟩
  · rw [← e]; exact h.rows p _ _ (List.getElem?_eq_getElem hv) (List.getElem?_eq_getElem hl)
  · rw [Lib.cell_of_heap h.block]; simp [hv]

def Log.put (K : Log) (p : Nat) (v : Value) (m : MOp) : Log := ⟨K.b, K.vs.set p v, K.ms.modify p (· ++ [m])⟩

theorem map_modify {α β : Type} (f : α → β) (g : α → α) (g' : β → β) (h : ∀ a, f (g a) = g' (f a)) (l : List α) (p : Nat) : (l.modify p g).map f = (l.map f).modify p g' := by
  apply List.ext_getElem?
  intro j
  rw [List.getElem?_map, List.getElem?_modify, List.getElem?_modify, List.getElem?_map]
  cases l[j]? with
  | none => simp
  | some a =>
    by_cases hj : p = j
    · simp [hj, h]
    · simp [hj]

theorem modify_set (l : List Nat) (p x : Nat) (h : l[p]? = some x) : l.modify p (· + 1) = l.set p (x + 1) := by
  apply List.ext_getElem?
  intro j
  rw [List.getElem?_modify, List.getElem?_set]
  by_cases hj : p = j
  · subst hj
    obtain ⟨h1, h2⟩ := List.getElem?_eq_some_iff.1 h
    simp [h1, h2]
  · simp [hj]

/-- One operation is laid behind those of its peer. -/
theorem LogAt.add {w w1 : World} {K : Log} {known : List Nat} (h : LogAt w K known) {p x : Nat} (hx : known[p]? = some x) {v v' : Value} {l : List MOp} (hv : K.vs[p]? = some v) (hl : K.ms[p]? = some l) (m : MOp) (hm : SeenAt w m)
    (hown : w1.ownsRow 0 115 8 v' (x + 1) (opsCells (l ++ [m]))) (hk : Kept (fun k => v.ownBlock = some k) w w1) (hN : ∀ k, v'.ownBlock = some k → v.ownBlock = some k ∨ w.heap.size ≤ k) :
    LogAt (w1.setCell ⟨K.b, p, none⟩ v') (K.put p v' m) (known.set p (x + 1)) ∧ Kept K.Foot w (w1.setCell ⟨K.b, p, none⟩ v') ∧ (∀ k, (K.put p v' m).Foot k → K.Foot k ∨ w.heap.size ≤ k) ∧ (∀ k, (K.put p v' m).Seen k → K.Seen k ∨ k = m.g) := by
  have hpv : p < K.vs.length := (List.getElem?_eq_some_iff.1 hv).1
  have hpl : p < K.ms.length := (List.getElem?_eq_some_iff.1 hl).1
  have hrow := h.rows p v l hv hl
  have hbv : v.ownBlock ≠ some K.b := own_ne hrow h.block (by decide)
  have hb1 := hk.heap h.block hbv
  have hbv' : v'.ownBlock ≠ some K.b := own_ne hown hb1 (by decide)
  have hlx : l.length = x := by
    have h1 := hx
    rw [h.count, List.getElem?_map, hl] at h1
    simpa using h1
  have K2 : Kept (fun k => k = K.b) w1 (w1.setCell ⟨K.b, p, none⟩ v') := Kept.setCell (S := fun k => k = K.b) (Kept.refl _ w1) (p := ⟨K.b, p, none⟩) (fun _ => rfl) _
  have KA : Kept (fun k => v.ownBlock = some k ∨ k = K.b) w (w1.setCell ⟨K.b, p, none⟩ v') := (hk.mono (fun _ _ h => Or.inl h)).trans K2 (fun _ _ h => Or.inr h)
  have hseen : ∀ q : MOp, SeenAt w q → SeenAt (w1.setCell ⟨K.b, p, none⟩ v') q := fun q hq => by
    obtain ⟨cur, a, b⟩ := hq
    refine SeenAt.keep ⟨cur, a, b⟩ KA ?_
    rintro (e | e)
    · exact own_ne hrow a (by decide) e
    · rw [e, h.block] at a; simp at a
  refine ⟨⟨?_, ?_, ?_, ?_, ?_, ?_⟩, KA.mono ?_, ?_, ?_⟩
  · show (w1.setCell ⟨K.b, p, none⟩ v').heap[K.b]? = some (.cells (K.vs.set p v').toArray _ _)
    rw [heap_set_same hb1]; simp
  · show (K.vs.set p v').length = _
    rw [List.length_set, List.length_set]; exact h.lenV
  · show known.set p (x + 1) = (K.ms.modify p (· ++ [m])).map List.length
    rw [map_modify List.length (· ++ [m]) (· + 1) (fun a => by simp), ← h.count, modify_set _ _ _ hx]
  · intro i u q hu hq
    have hu' : (K.vs.set p v')[i]? = some u := hu
    have hq' : (K.ms.modify p (· ++ [m]))[i]? = some q := hq
    rw [List.getElem?_set] at hu'
    rw [List.getElem?_modify] at hq'
    by_cases hi : p = i
    · subst hi
      rw [if_pos rfl, if_pos hpv] at hu'
      cases hu'
      rw [hl] at hq'
      simp at hq'
      subst hq'
      have : (l ++ [m]).length = x + 1 := by simp [hlx]
      rw [this]
      exact ownsRow_kept hown K2 (fun b hb e => hbv' (by rw [hb, e]))
    · rw [if_neg hi] at hu'
      simp [hi] at hq'
      refine ownsRow_kept (h.rows i u q hu' hq') KA ?_
      rintro b hb (e | e)
      · exact hi (h.apart p i v u b hv hu' e hb)
      · subst e; exact own_ne (h.rows i u q hu' hq') h.block (by decide) hb
  · intro i j u z b hu hz hub hzb
    have hu' : (K.vs.set p v')[i]? = some u := hu
    have hz' : (K.vs.set p v')[j]? = some z := hz
    rw [List.getElem?_set] at hu' hz'
    have key : ∀ (i : Nat) (u : Value), p ≠ i → K.vs[i]? = some u → u.ownBlock = some b → v'.ownBlock = some b → False := fun i u hi hu hub hvb => by
      rcases hN b hvb with e | e
      · exact hi (h.apart p i v u b hv hu e hub)
      · have := h.lt.1 b (Or.inr ⟨u, List.mem_of_getElem? hu, hub⟩); omega
    by_cases hi : p = i
    · subst hi
      rw [if_pos rfl, if_pos hpv] at hu'
      cases hu'
      by_cases hj : p = j
      · exact hj
      · rw [if_neg hj] at hz'
        exact (key j z hj hz' hzb hub).elim
    · rw [if_neg hi] at hu'
      by_cases hj : p = j
      · subst hj
        rw [if_pos rfl, if_pos hpv] at hz'
        cases hz'
        exact (key i u hi hu' hub hzb).elim
      · rw [if_neg hj] at hz'
        exact h.apart i j u z b hu' hz' hub hzb
  · intro q hq z hz
    have hq' : q ∈ K.ms.modify p (· ++ [m]) := hq
    obtain ⟨i, hi, rfl⟩ := List.getElem_of_mem hq'
    rw [List.getElem_modify] at hz
    have hi2 : i < K.ms.length := by simpa using hi
    split at hz
    · rcases List.mem_append.1 hz with hz | hz
      · exact hseen z (h.seen _ (List.getElem_mem hi2) z hz)
      · rw [List.mem_singleton.1 hz]; exact hseen m hm
    · exact hseen z (h.seen _ (List.getElem_mem hi2) z hz)
  · rintro k _ (e | e)
    · exact Or.inr ⟨v, List.mem_of_getElem? hv, e⟩
    · exact Or.inl e
  · rintro k (e | ⟨u, hu, hub⟩)
    · exact Or.inl (Or.inl e)
    · have hu' : u ∈ K.vs.set p v' := hu
      rcases List.mem_or_eq_of_mem_set hu' with hu' | rfl
      · exact Or.inl (Or.inr ⟨u, hu', hub⟩)
      · rcases hN k hub with e | e
        · exact Or.inl (Or.inr ⟨v, List.mem_of_getElem? hv, e⟩)
        · exact Or.inr e
  · rintro k ⟨q, hq, z, hz, rfl⟩
    have hq' : q ∈ K.ms.modify p (· ++ [m]) := hq
    obtain ⟨i, hi, rfl⟩ := List.getElem_of_mem hq'
    rw [List.getElem_modify] at hz
    have hi2 : i < K.ms.length := by simpa using hi
    split at hz
    · rcases List.mem_append.1 hz with hz | hz
      · exact Or.inl ⟨_, List.getElem_mem hi2, z, hz, rfl⟩
      · rw [List.mem_singleton.1 hz]; exact Or.inr rfl
    · exact Or.inl ⟨_, List.getElem_mem hi2, z, hz, rfl⟩

end Go.Proofs.YtgfafbanahiigaaGreat
