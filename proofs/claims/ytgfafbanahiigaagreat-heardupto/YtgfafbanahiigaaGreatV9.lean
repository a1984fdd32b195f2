import Derived.Test.YtgfafbanahiigaaGreatH2
import Derived.Test.YtgfafbanahiigaaGreatV8
set_option linter.unusedVariables false
set_option linter.unusedSimpArgs false
namespace Go.Proofs.YtgfafbanahiigaaGreat
open Go.RowKit Go.Chorus

/-- A peer in memory, but for what waits. -/
structure PeerS (w : World) (bp : Nat) (s : Pr) (bk : Log) (rv hv : Value) : Prop where
  block : w.heap[bp]? = some (.cells #[.int .u8 s.me, .int .u32 s.clock, .slice (some ⟨bk.b, 0, none⟩) s.known.length s.known.length, rv, hv] 69 (0, 0))
  log : LogAt w bk s.known
  row : w.ownsRow 0 102 4 rv s.row.length (rowCells s.row)
  off : ∀ v ∈ bk.vs, ∀ b, v.ownBlock = some b → hv.ownBlock ≠ some b
  ops : bk.ms.map (List.map MOp.o) = s.log

theorem PeerS.cells {w : World} {bp : Nat} {s : Pr} {bk : Log} {rv hv : Value} (h : PeerS w bp s bk rv hv) :
    w.cell? ⟨bp, 0, none⟩ = some (.int .u8 s.me) ∧ w.cell? ⟨bp, 1, none⟩ = some (.int .u32 s.clock) ∧ w.cell? ⟨bp, 2, none⟩ = some (.slice (some ⟨bk.b, 0, none⟩) s.known.length s.known.length) ∧ w.cell? ⟨bp, 3, none⟩ = some rv ∧ w.cell? ⟨bp, 4, none⟩ = some hv := by
  refine ⟨?_, ?_, ?_, ?_, ?_⟩ <;> (rw [Lib.cell_of_heap h.block]; rfl)

/-- Which blocks a delivery may write. -/
def Foot (bp : Nat) (bk : Log) (rv : Value) (k : Nat) : Prop := k = bp ∨ bk.Foot k ∨ rv.ownBlock = some k

theorem PeerS.keep {S : Nat → Prop} {w w' : World} {bp : Nat} {s : Pr} {bk : Log} {rv hv : Value} (h : PeerS w bp s bk rv hv) (k : Kept S w w') (h1 : ∀ b, Foot bp bk rv b → ¬ S b) (h2 : ∀ b, bk.Seen b → ¬ S b) : PeerS w' bp s bk rv hv :=
  ⟨k.heap h.block (h1 _ (Or.inl rfl)), h.log.keep k (fun b hb => h1 b (Or.inr (Or.inl hb))) h2, ownsRow_kept h.row k (fun b hb => h1 b (Or.inr (Or.inr hb))), h.off, h.ops⟩

theorem PeerS.quiet {w w' : World} {bp : Nat} {s : Pr} {bk : Log} {rv hv : Value} (h : PeerS w bp s bk rv hv) (k : Kept (fun _ => False) w w') : PeerS w' bp s bk rv hv := h.keep k (fun _ _ h => h) (fun _ _ h => h)

theorem PeerS.lt {w : World} {bp : Nat} {s : Pr} {bk : Log} {rv hv : Value} (h : PeerS w bp s bk rv hv) : (∀ k, Foot bp bk rv k → k < w.heap.size) ∧ ∀ k, bk.Seen k → k < w.heap.size := by
  refine ⟨?_, h.log.lt.2⟩
  rintro k (rfl | hk | hk)
  · exact lt_of_heap h.block
  · exact h.log.lt.1 k hk
  · exact (h.row.lt k hk).2

/-- A block of another type is none of those. -/
theorem PeerS.not {w : World} {bp : Nat} {s : Pr} {bk : Log} {rv hv : Value} (h : PeerS w bp s bk rv hv) {b : Nat} {cs : Array Value} {t : TypeId} {f : Nat × Nat} (hb : w.heap[b]? = some (.cells cs t f)) (h0 : t ≠ 69) (h1 : t ≠ 67) (h2 : t ≠ 115) (h3 : t ≠ 102) : ¬ Foot bp bk rv b := by
  rintro (rfl | hk | hk)
  · have := h.block
    rw [hb] at this
    simp at this
    exact h0 this.2.1
  · exact h.log.off hb h1 h2 hk
  · exact own_ne h.row hb h3 hk

theorem PeerS.seenNot {w : World} {bp : Nat} {s : Pr} {bk : Log} {rv hv : Value} (h : PeerS w bp s bk rv hv) : ∀ k, bk.Seen k → ¬ Foot bp bk rv k := by
  rintro k ⟨l, hl, m, hm, rfl⟩
  obtain ⟨cur, a, _⟩ := h.log.seen l hl m hm
  exact h.not a (by decide) (by decide) (by decide) (by decide)

/-- What waits, in memory. -/
structure HeldAt (w : World) (hv : Value) (ms : List MOp) : Prop where
  row : w.ownsRow 0 115 8 hv ms.length (opsCells ms)
  seen : ∀ m ∈ ms, SeenAt w m

/-- All blocks that are a peer's. -/
def Own (bp : Nat) (bk : Log) (rv hv : Value) (ms : List MOp) (k : Nat) : Prop := Foot bp bk rv k ∨ hv.ownBlock = some k ∨ (∃ m ∈ ms, m.g = k) ∨ bk.Seen k

/-- A peer in memory: s; its blocks: F. -/
def PM (w : World) (bp : Nat) (s : Pr) (F : Nat → Prop) : Prop := ∃ bk rv hv ms, PeerS w bp s bk rv hv ∧ HeldAt w hv ms ∧ ms.map MOp.o = s.held ∧ F = Own bp bk rv hv ms

theorem HeldAt.keep {S : Nat → Prop} {w w' : World} {hv : Value} {ms : List MOp} (h : HeldAt w hv ms) (k : Kept S w w') (h1 : ∀ b, hv.ownBlock = some b → ¬ S b) (h2 : ∀ m ∈ ms, ¬ S m.g) : HeldAt w' hv ms :=
  ⟨ownsRow_kept h.row k h1, fun m hm => (h.seen m hm).keep k (h2 m hm)⟩

theorem HeldAt.quiet {w w' : World} {hv : Value} {ms : List MOp} (h : HeldAt w hv ms) (k : Kept (fun _ => False) w w') : HeldAt w' hv ms := h.keep k (fun _ _ h => h) (fun _ _ h => h)

/-- What waits lies apart from the rest. -/
theorem HeldAt.apart {w : World} {bp : Nat} {s : Pr} {bk : Log} {rv hv : Value} {ms : List MOp} (h : HeldAt w hv ms) (p : PeerS w bp s bk rv hv) : (∀ b, hv.ownBlock = some b → ¬ Foot bp bk rv b) ∧ (∀ m ∈ ms, ¬ Foot bp bk rv m.g) ∧ (∀ b, hv.ownBlock = some b → ¬ bk.Seen b) := by
  refine ⟨?_, ?_, ?_⟩
  · intro b hb hf
    rcases hf with rfl | (rfl | ⟨v, hv, hk⟩) | hf
    · exact own_ne h.row p.block (by decide) hb
    · exact own_ne h.row p.log.block (by decide) hb
    · exact p.off v hv b hk hb
    · rcases p.row.2 with ⟨e, _⟩ | ⟨g, cap, cur, e, _, hg, _⟩
      · rw [e] at hf; simp [Value.ownBlock] at hf
      · rw [e] at hf; simp [Value.ownBlock] at hf; subst hf
        exact own_ne h.row hg (by decide) hb
  · intro m hm
    obtain ⟨cur, hg, _⟩ := h.seen m hm
    exact p.not hg (by decide) (by decide) (by decide) (by decide)
  · rintro b hb ⟨l, hl, m, hm, rfl⟩
    obtain ⟨cur, a, _⟩ := p.log.seen l hl m hm
    exact own_ne h.row a (by decide) hb

theorem HeldAt.foot {w w' : World} {bp : Nat} {s : Pr} {bk : Log} {rv hv : Value} {ms : List MOp} (h : HeldAt w hv ms) (p : PeerS w bp s bk rv hv) (k : Kept (Foot bp bk rv) w w') : HeldAt w' hv ms := h.keep k (h.apart p).1 (h.apart p).2.1

theorem HeldAt.lt {w : World} {hv : Value} {ms : List MOp} (h : HeldAt w hv ms) : ∀ b, hv.ownBlock = some b → b < w.heap.size := fun b hb => (h.row.lt b hb).2

theorem PM.lt {w : World} {bp : Nat} {s : Pr} {F : Nat → Prop} (h : PM w bp s F) : ∀ k, F k → k < w.heap.size := by
  obtain ⟨bk, rv, hv, ms, h1, h2, _, rfl⟩ := h
  intro k hk
  rcases hk with hk | hk | ⟨m, hm, rfl⟩ | hk
  · exact h1.lt.1 k hk
  · exact (h2.row.lt k hk).2
  · obtain ⟨cur, hg, _⟩ := h2.seen m hm
    exact lt_of_heap hg
  · exact h1.lt.2 k hk

theorem PM.keep {S : Nat → Prop} {w w' : World} {bp : Nat} {s : Pr} {F : Nat → Prop} (h : PM w bp s F) (k : Kept S w w') (hS : ∀ j, F j → ¬ S j) : PM w' bp s F := by
  obtain ⟨bk, rv, hv, ms, h1, h2, h3, rfl⟩ := h
  exact ⟨bk, rv, hv, ms, h1.keep k (fun b hb => hS b (Or.inl hb)) (fun b hb => hS b (Or.inr (Or.inr (Or.inr hb)))), h2.keep k (fun b hb => hS b (Or.inr (Or.inl hb))) (fun m hm => hS _ (Or.inr (Or.inr (Or.inl ⟨m, hm, rfl⟩)))), h3, rfl⟩

theorem PM.quiet {w w' : World} {bp : Nat} {s : Pr} {F : Nat → Prop} (h : PM w bp s F) (k : Kept (fun _ => False) w w') : PM w' bp s F := h.keep k (fun _ _ h => h)

/-- What a call on a peer does to the memory: the peer is s' behind it; only its own blocks turned; what is its own behind it was so or is new. -/
def Turn (bp : Nat) (F : Nat → Prop) (w w' : World) (s' : Pr) : Prop := ∃ F', PM w' bp s' F' ∧ Kept F w w' ∧ ∀ k, F' k → F k ∨ w.heap.size ≤ k

theorem Turn.stay {bp : Nat} {F : Nat → Prop} {w w' : World} {s : Pr} (h : PM w bp s F) (k : Kept (fun _ => False) w w') : Turn bp F w w' s := ⟨F, h.quiet k, k.mono (fun _ _ h => h.elim), fun _ h => Or.inl h⟩

theorem Turn.quiet {bp : Nat} {F : Nat → Prop} {w w' w'' : World} {s : Pr} (h : Turn bp F w w' s) (k : Kept (fun _ => False) w' w'') : Turn bp F w w'' s := by
  obtain ⟨F', a, b, c⟩ := h
  exact ⟨F', a.quiet k, b.trans k (fun _ _ h => h.elim), c⟩

/-- Its numbers are as wide as their types. -/
structure Fit (N : Nat) (s : Pr) : Prop where
  len : s.known.length = N
  n1 : 1 ≤ N
  n8 : N ≤ 8
  me : s.me < N
  known : ∀ n ∈ s.known, n < 4294967296
  clock : s.clock < 4294967296
  held : ∀ o ∈ s.held, RightOp N o
  most : s.held.length ≤ 16
  row : ∀ e ∈ s.row, e.Fits
  log : ∀ l ∈ s.log, ∀ o ∈ l, RightOp N o

def psize (s : Pr) : Nat := s.row.length + s.held.length

theorem insertEl_length (es : List El) (c p bc bp : Nat) (ch : Int) : (insertEl es c p bc bp ch).length ≤ es.length + 1 := by
  unfold insertEl
  split
  · omega
  · simp; omega

theorem insertEl_fits {es : List El} {c p bc bp : Nat} {ch : Int} (h : ∀ e ∈ es, e.Fits) (hn : (⟨c, p, ch, false⟩ : El).Fits) : ∀ e ∈ insertEl es c p bc bp ch, e.Fits := by
  unfold insertEl
  split
  · exact h
  · intro e he
    simp only [List.mem_append, List.mem_cons] at he
    rcases he with he | rfl | he
    · exact h e (List.mem_of_mem_take he)
    · exact hn
    · exact h e (List.mem_of_mem_drop he)

theorem killEl_length (es : List El) (c p : Nat) : (killEl es c p).length = es.length := by
  unfold killEl; split <;> simp

theorem killEl_fits {es : List El} {c p : Nat} (h : ∀ e ∈ es, e.Fits) : ∀ e ∈ killEl es c p, e.Fits := by
  unfold killEl
  split
  · intro e he
    obtain ⟨i, hi, rfl⟩ := List.getElem_of_mem he
    rw [List.getElem_modify]
    have hi2 : i < es.length := by simpa using hi
    have hh : (es[i]'hi2).Fits := h _ (List.getElem_mem _)
    split
    · exact hh
    · exact hh
  · exact h

theorem Fit.k {N : Nat} {s : Pr} (h : Fit N s) (j : Nat) : s.k j < 4294967296 := by
  unfold Pr.k
  rw [List.getD_eq_getElem?_getD]
  cases hj : s.known[j]? with
  | none => simp
  | some n => exact h.known n (List.mem_of_getElem? hj)

theorem Fit.apply {N : Nat} {s : Pr} (h : Fit N s) {o : Ope} (ho : RightOp N o) (hc : o.num = s.k o.peer + 1) : Fit N (s.apply o) := by
  have hch : (o.char : Int) ≤ 2147483647 := by
    have := ho.char
    split at this <;> omega
  refine ⟨?_, h.n1, h.n8, h.me, ?_, ?_, h.held, h.most, ?_, ?_⟩
  · show (s.known.set _ _).length = N
    rw [List.length_set]; exact h.len
  · intro n hn
    rcases List.mem_or_eq_of_mem_set hn with hn | rfl
    · exact h.known n hn
    · have := ho.num; omega
  · show max s.clock o.clock < _
    have := ho.clock; have := h.clock; omega
  · show ∀ e ∈ (if o.ins then _ else _), El.Fits e
    split
    · exact insertEl_fits h.row ⟨ho.clock.2, by have := ho.peer; have := h.n8; show o.peer < 256; omega, by show (-2147483648 : Int) ≤ (o.char : Int); omega, hch⟩
    · exact killEl_fits h.row
  · intro l hl
    have hl' : l ∈ s.log.modify o.peer (· ++ [o]) := hl
    obtain ⟨i, hi, rfl⟩ := List.getElem_of_mem hl'
    have hi2 : i < s.log.length := by simpa using hi
    intro q hq
    rw [List.getElem_modify] at hq
    split at hq
    · rcases List.mem_append.1 hq with hq | hq
      · exact h.log _ (List.getElem_mem hi2) q hq
      · rw [List.mem_singleton.1 hq]; exact ho
    · exact h.log _ (List.getElem_mem hi2) q hq

theorem size_apply (s : Pr) (o : Ope) : psize (s.apply o) ≤ psize s + 1 := by
  unfold psize
  show (if o.ins then _ else _ : List El).length + s.held.length ≤ _
  split
  · have := insertEl_length s.row o.clock o.peer o.nclock o.npeer o.char; omega
  · rw [killEl_length]; omega

end Go.Proofs.YtgfafbanahiigaaGreat
