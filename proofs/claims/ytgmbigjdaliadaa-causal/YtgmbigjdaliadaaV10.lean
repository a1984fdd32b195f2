import Derived.Test.YtgmbigjdaliadaaV9
import Derived.Test.YtgmbigjdaliadaaV8
import Derived.Test.YtgmbigjdaliadaaV4
set_option linter.unusedVariables false
set_option linter.unusedSimpArgs false
namespace Go.Proofs.Ytgmbigjdaliadaa
open Go.RowKit Go.Chorus

/-- A peer in memory, but for what waits. -/
def PeerS (w : World) (bp : Nat) (s : Pr) (bk : Nat) (rv hv : Value) : Prop := PeerAt w bp s.me s.clock s.known s.row bk rv hv

/-- What waits, in memory. -/
structure HeldAt (w : World) (hv : Value) (bk : Nat) (ms : List MOp) : Prop where
  row : w.ownsRow 0 87 8 hv ms.length (opsCells ms)
  seen : ∀ m ∈ ms, m.g ≠ bk ∧ ∃ cur, w.heap[m.g]? = some (.cells cur 73 (0, 0)) ∧ ∀ (i n : Nat), m.o.seen[i]? = some n → cur[i]? = some (.int .u32 (n : Int))

/-- All blocks that are a peer's. -/
def Own (bp bk : Nat) (rv hv : Value) (ms : List MOp) (k : Nat) : Prop := Foot bp bk rv k ∨ hv.ownBlock = some k ∨ ∃ m ∈ ms, m.g = k

/-- A peer in memory: s; its blocks: F. -/
def PM (w : World) (bp : Nat) (s : Pr) (F : Nat → Prop) : Prop := ∃ bk rv hv ms, PeerS w bp s bk rv hv ∧ HeldAt w hv bk ms ∧ ms.map MOp.o = s.held ∧ F = Own bp bk rv hv ms

theorem HeldAt.keep {S : Nat → Prop} {w w' : World} {hv : Value} {bk : Nat} {ms : List MOp} (h : HeldAt w hv bk ms) (k : Kept S w w') (h1 : ∀ b, hv.ownBlock = some b → ¬ S b) (h2 : ∀ m ∈ ms, ¬ S m.g) : HeldAt w' hv bk ms :=
  ⟨ownsRow_kept h.row k h1, fun m hm => by
    obtain ⟨a, cur, b, c⟩ := h.seen m hm
    exact ⟨a, cur, k.heap b (h2 m hm), c⟩⟩

theorem HeldAt.quiet {w w' : World} {hv : Value} {bk : Nat} {ms : List MOp} (h : HeldAt w hv bk ms) (k : Kept (fun _ => False) w w') : HeldAt w' hv bk ms := h.keep k (fun _ _ h => h) (fun _ _ h => h)

theorem PeerS.quiet {w w' : World} {bp : Nat} {s : Pr} {bk : Nat} {rv hv : Value} (h : PeerS w bp s bk rv hv) (k : Kept (fun _ => False) w w') : PeerS w' bp s bk rv hv :=
  ⟨k.heap h.block (fun h => h), k.heap h.knownB (fun h => h), ownsRow_kept h.row k (fun _ _ h => h)⟩

/-- What waits lies apart from the rest. -/
theorem HeldAt.apart {w : World} {bp : Nat} {s : Pr} {bk : Nat} {rv hv : Value} {ms : List MOp} (h : HeldAt w hv bk ms) (p : PeerS w bp s bk rv hv) : (∀ b, hv.ownBlock = some b → ¬ Foot bp bk rv b) ∧ (∀ m ∈ ms, ¬ Foot bp bk rv m.g) := by
  constructor
  · intro b hb hf
    rcases hf with rfl | rfl | hf
    · exact own_ne h.row p.block (by decide) hb
    · exact own_ne h.row p.knownB (by decide) hb
    · rcases p.row.2 with ⟨e, _⟩ | ⟨g, cap, cur, e, _, hg, _⟩
      · rw [e] at hf; simp [Value.ownBlock] at hf
      · rw [e] at hf; simp [Value.ownBlock] at hf; subst hf
        exact own_ne h.row hg (by decide) hb
  · intro m hm hf
    obtain ⟨hne, cur, hg, _⟩ := h.seen m hm
    rcases hf with e | e | hf
    · rw [e, p.block] at hg; simp at hg
    · exact hne e
    · exact own_ne p.row hg (by decide) hf

theorem HeldAt.foot {w w' : World} {bp : Nat} {s : Pr} {bk : Nat} {rv hv : Value} {ms : List MOp} (h : HeldAt w hv bk ms) (p : PeerS w bp s bk rv hv) (k : Kept (Foot bp bk rv) w w') : HeldAt w' hv bk ms := h.keep k (h.apart p).1 (h.apart p).2

theorem PM.lt {w : World} {bp : Nat} {s : Pr} {F : Nat → Prop} (h : PM w bp s F) : ∀ k, F k → k < w.heap.size := by
  obtain ⟨bk, rv, hv, ms, h1, h2, _, rfl⟩ := h
  intro k hk
  rcases hk with (rfl | rfl | hk) | hk | ⟨m, hm, rfl⟩
  · exact lt_of_heap h1.block
  · exact lt_of_heap h1.knownB
  · exact (h1.row.lt k hk).2
  · exact (h2.row.lt k hk).2
  · obtain ⟨_, cur, hg, _⟩ := h2.seen m hm
    exact lt_of_heap hg

theorem PM.keep {S : Nat → Prop} {w w' : World} {bp : Nat} {s : Pr} {F : Nat → Prop} (h : PM w bp s F) (k : Kept S w w') (hS : ∀ j, F j → ¬ S j) : PM w' bp s F := by
  obtain ⟨bk, rv, hv, ms, h1, h2, h3, rfl⟩ := h
  exact ⟨bk, rv, hv, ms, ⟨k.heap h1.block (hS _ (Or.inl (Or.inl rfl))), k.heap h1.knownB (hS _ (Or.inl (Or.inr (Or.inl rfl)))), ownsRow_kept h1.row k (fun b hb => hS b (Or.inl (Or.inr (Or.inr hb))))⟩, h2.keep k (fun b hb => hS b (Or.inr (Or.inl hb))) (fun m hm => hS _ (Or.inr (Or.inr ⟨m, hm, rfl⟩))), h3, rfl⟩

theorem PM.quiet {w w' : World} {bp : Nat} {s : Pr} {F : Nat → Prop} (h : PM w bp s F) (k : Kept (fun _ => False) w w') : PM w' bp s F := h.keep k (fun _ _ h => h)

/-- What a call on a peer does to the memory: the peer is s' behind it; only its own blocks turned; what is its own behind it was so or is new. -/
def Turn (bp : Nat) (F : Nat → Prop) (w w' : World) (s' : Pr) : Prop := ∃ F', PM w' bp s' F' ∧ Kept F w w' ∧ ∀ k, F' k → F k ∨ w.heap.size ≤ k

theorem Turn.stay {bp : Nat} {F : Nat → Prop} {w w' : World} {s : Pr} (h : PM w bp s F) (k : Kept (fun _ => False) w w') : Turn bp F w w' s := ⟨F, h.quiet k, k.mono (fun _ _ h => h.elim), fun _ h => Or.inl h⟩

theorem Turn.quiet {bp : Nat} {F : Nat → Prop} {w w' w'' : World} {s : Pr} (h : Turn bp F w w' s) (k : Kept (fun _ => False) w' w'') : Turn bp F w w'' s := by
  obtain ⟨F', a, b, c⟩ := h
  exact ⟨F', a.quiet k, b.trans k (fun _ _ h => h.elim), c⟩

/-- Its numbers are as wide as their types. -/
structure Fit (N : Nat) (s : Pr) : Prop where
  len : s.known.length = N
  n1 : 1 ≤ N
  n8 : N ≤ 8
  me : s.me < N
  known : ∀ n ∈ s.known, n < 4294967296
  clock : s.clock < 4294967296
  held : ∀ o ∈ s.held, RightOp N o
  most : s.held.length ≤ 16
  row : ∀ e ∈ s.row, e.Fits

def psize (s : Pr) : Nat := s.row.length + s.held.length

theorem insertEl_length (es : List El) (c p bc bp : Nat) (ch : Int) : (insertEl es c p bc bp ch).length ≤ es.length + 1 := by
  unfold insertEl
  split
  · omega
  · simp; omega

theorem insertEl_fits {es : List El} {c p bc bp : Nat} {ch : Int} (h : ∀ e ∈ es, e.Fits) (hn : (⟨c, p, ch, false⟩ : El).Fits) : ∀ e ∈ insertEl es c p bc bp ch, e.Fits := by
  unfold insertEl
  split
  · exact h
  · intro e he
    simp only [List.mem_append, List.mem_cons] at he
    rcases he with he | rfl | he
    · exact h e (List.mem_of_mem_take he)
    · exact hn
    · exact h e (List.mem_of_mem_drop he)

theorem killEl_length (es : List El) (c p : Nat) : (killEl es c p).length = es.length := by
  unfold killEl; split <;> simp

theorem killEl_fits {es : List El} {c p : Nat} (h : ∀ e ∈ es, e.Fits) : ∀ e ∈ killEl es c p, e.Fits := by
  unfold killEl
  split
  · intro e he
    obtain ⟨i, hi, rfl⟩ := List.getElem_of_mem he
    rw [List.getElem_modify]
    have hi2 : i < es.length := by simpa using hi
    have hh : (es[i]'hi2).Fits := h _ (List.getElem_mem _)
    split
    · exact hh
    · exact hh
  · exact h

theorem Fit.k {N : Nat} {s : Pr} (h : Fit N s) (j : Nat) : s.k j < 4294967296 := by
  unfold Pr.k
  rw [List.getD_eq_getElem?_getD]
  cases hj : s.known[j]? with
  | none => simp
  | some n => exact h.known n (List.mem_of_getElem? hj)

theorem Fit.apply {N : Nat} {s : Pr} (h : Fit N s) {o : Ope} (ho : RightOp N o) (hc : o.num = s.k o.peer + 1) : Fit N (s.apply o) := by
  have hch : (o.char : Int) ≤ 2147483647 := by
    have := ho.char
    split at this <;> omega
  refine ⟨?_, h.n1, h.n8, h.me, ?_, ?_, h.held, h.most, ?_⟩
  · show (s.known.set _ _).length = N
    rw [List.length_set]; exact h.len
  · intro n hn
    rcases List.mem_or_eq_of_mem_set hn with hn | rfl
    · exact h.known n hn
    · have := ho.num; omega
  · show max s.clock o.clock < _
    have := ho.clock; have := h.clock; omega
  · show ∀ e ∈ (if o.ins then _ else _), El.Fits e
    split
    · exact insertEl_fits h.row ⟨ho.clock.2, by have := ho.peer; have := h.n8; show o.peer < 256; omega, by show (-2147483648 : Int) ≤ (o.char : Int); omega, hch⟩
    · exact killEl_fits h.row

theorem size_apply (s : Pr) (o : Ope) : psize (s.apply o) ≤ psize s + 1 := by
  unfold psize
  show (if o.ins then _ else _ : List El).length + s.held.length ≤ _
  split
  · have := insertEl_length s.row o.clock o.peer o.nclock o.npeer o.char; omega
  · rw [killEl_length]; omega

theorem deliver_any (s : Pr) (o : Ope) (N : Nat) (bp bk : Nat) (rv hv : Value) (g cap : Nat) (w : World) (h : PeerS w bp s bk rv hv) (hf : Fit N s) (ho : RightOp N o) (hn : s.row.length ≤ 4294967295) (hx : s.k o.peer < 4294967295) :
    Calls Try.prog 49 #[.pointer (some ⟨bp, 0, none⟩), .agg #[.int .u8 o.kind, .int .u8 o.peer, .int .u32 o.num, .int .u32 o.clock, .slice (some ⟨g, 0, none⟩) o.seen.length cap, .int .u32 o.nclock, .int .u8 o.npeer, .int .i32 o.char]] w fun e' w' =>
      e' = .returned (.tuple #[]) ∧ ∃ rv', PeerS w' bp (s.apply o) bk rv' hv ∧ Kept (Foot bp bk rv) w w' ∧ (∀ k, rv'.ownBlock = some k → rv.ownBlock = some k ∨ w.heap.size ≤ k) := by
  have hpl : o.peer < s.known.length := by rw [hf.len]; exact ho.peer
  have hxe : s.known[o.peer]? = some (s.k o.peer) := by
    unfold Pr.k; rw [List.getD_eq_getElem?_getD, List.getElem?_eq_getElem hpl]; rfl
  have hkl : s.known.length ≤ 8 := by rw [hf.len]; exact hf.n8
  cases hi : o.ins with
  | false =>
    have hk : ((o.kind : Nat) : Int) = 2 := by unfold Ope.kind; rw [hi]; rfl
    rw [hk]
    refine (deliver_del bp s.me s.clock s.known s.row bk rv hv w h hn hkl o.peer o.num o.clock _ o.nclock o.npeer o.char (s.k o.peer) hxe hx hf.clock ho.clock.2).mono ?_
    rintro e' w' ⟨rfl, h1, h2⟩
    refine ⟨rfl, rv, ?_, h2, fun k hk => Or.inl hk⟩
    show PeerAt _ _ _ _ _ (if o.ins then _ else _) _ _ _
    rw [hi]; exact h1
  | true =>
    have hk : ((o.kind : Nat) : Int) = 1 := by unfold Ope.kind; rw [hi]; rfl
    rw [hk]
    by_cases h12 : 0 ≤ findFrom o.clock o.peer s.row 0 ∨ placeOk o.nclock o.npeer s.row = false
    · refine (deliver_none bp s.me s.clock s.known s.row bk rv hv w h hn hkl o.peer o.num o.clock _ o.nclock o.npeer o.char (s.k o.peer) hxe hx hf.clock ho.clock.2 h12).mono ?_
      rintro e' w' ⟨rfl, h1, h2⟩
      refine ⟨rfl, rv, ?_, h2, fun k hk => Or.inl hk⟩
      show PeerAt _ _ _ _ _ (if o.ins then insertEl s.row o.clock o.peer o.nclock o.npeer o.char else _) _ _ _
      rw [hi, if_pos rfl]
      unfold insertEl
      rw [if_pos h12]; exact h1
    · refine (deliver_ins bp s.me s.clock s.known s.row bk rv hv w h hn hkl o.peer o.num o.clock _ o.nclock o.npeer o.char (s.k o.peer) hxe hx hf.clock ho.clock.2 (fun hh => h12 (Or.inl hh)) (by cases hp : placeOk o.nclock o.npeer s.row with | true => rfl | false => exact absurd (Or.inr hp) h12)).mono ?_
      rintro e' w' ⟨rfl, rv', h1, h2, h3⟩
      refine ⟨rfl, rv', ?_, h2, h3⟩
      show PeerAt _ _ _ _ _ (if o.ins then _ else _) _ _ _
      rw [hi]; exact h1

end Go.Proofs.Ytgmbigjdaliadaa
