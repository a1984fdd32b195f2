import Derived.Test.YtgfafbanahiigaaV17
set_option linter.unusedVariables false
set_option linter.unusedSimpArgs false
namespace Go.Proofs.Ytgfafbanahiigaa
open Go.RowKit Go.Chorus

/-- A packet that was made, in memory. -/
structure Mk where
  o : Ope
  kb : Nat
  kc : Nat

def Mk.cells (m : Mk) : List Value := [.string ⟨m.o.packet.toArray⟩, .int .i64 m.o.peer, .int .i64 m.o.num, .slice (some ⟨m.kb, 0, none⟩) m.o.seen.length m.kc]

def madesCells : List Mk → List Value
  | [] => []
  | e :: r => e.cells ++ madesCells r

theorem madesCells_length (es : List Mk) : (madesCells es).length = es.length * 4 := by
  induction es with
  | nil => rfl
  | cons e r ih => simp [madesCells, Mk.cells, ih]; omega

theorem madesCells_append (a b : List Mk) : madesCells (a ++ b) = madesCells a ++ madesCells b := by
  induction a with
  | nil => rfl
  | cons e r ih => simp [madesCells, ih, List.append_assoc]

theorem madesCells_at (es : List Mk) (i : Nat) (e : Mk) (h : es[i]? = some e) (j : Nat) (hj : j < 4) : (madesCells es)[i * 4 + j]? = e.cells[j]? := by
  induction es generalizing i with
  | nil => simp at h
  | cons x r ih =>
    cases i with
    | zero =>
      simp at h; subst h
      simp only [madesCells, Nat.zero_mul, Nat.zero_add]
      rw [List.getElem?_append_left (by simp [Mk.cells]; omega)]
    | succ i =>
      simp only [madesCells]
      rw [List.getElem?_append_right (by simp [Mk.cells]; omega)]
      have : (i + 1) * 4 + j - x.cells.length = i * 4 + j := by simp [Mk.cells]; omega
      rw [this]
      exact ih i (by simpa using h)

/-- A group in memory: its peers' states ss, their blocks Fs, the packets that were made; in the blocks B. -/
structure GSt (B : Nat → Prop) (w : World) (bg bl lc : Nat) (bp : Nat → Nat) (ss : Nat → Pr) (Fs : Nat → Nat → Prop) (pv : Value) (mds : List Mk) (count : Nat) : Prop where
  block : w.heap[bg]? = some (.cells #[.slice (some ⟨bl, 0, none⟩) 3 lc, pv, .int .i64 count] 45 (0, 0))
  list : ∃ cur, w.heap[bl]? = some (.cells cur 24 (0, 0)) ∧ ∀ k, k < 3 → cur[k]? = some (.pointer (some ⟨bp k, 0, none⟩))
  peers : ∀ k, k < 3 → PM w (bp k) (ss k) (Fs k)
  apart : ∀ j k, j < 3 → k < 3 → j ≠ k → ∀ b, Fs j b → ¬ Fs k b
  packets : w.ownsRow 0 51 4 pv mds.length (madesCells mds)
  out : ∀ k, k < 3 → ¬ Fs k bg ∧ ¬ Fs k bl ∧ (∀ b, pv.ownBlock = some b → ¬ Fs k b) ∧ (∀ m ∈ mds, ¬ Fs k m.kb)
  knows : ∀ m ∈ mds, ∃ cur, w.heap[m.kb]? = some (.cells cur 3 (0, 0)) ∧ ∀ (i n : Nat), m.o.seen[i]? = some n → cur[i]? = some (.int .i64 (n : Int))
  base : B bg ∧ B bl ∧ (∀ k, k < 3 → ∀ b, Fs k b → B b) ∧ (∀ b, pv.ownBlock = some b → B b)

def upd {α : Type} (f : Nat → α) (k : Nat) (x : α) : Nat → α := fun j => if j = k then x else f j

theorem upd_same {α : Type} (f : Nat → α) (k : Nat) (x : α) : upd f k x k = x := if_pos rfl
theorem upd_other {α : Type} (f : Nat → α) (k j : Nat) (x : α) (h : j ≠ k) : upd f k x j = f j := if_neg h

theorem GSt.quiet {B : Nat → Prop} {w w' : World} {bg bl lc : Nat} {bp : Nat → Nat} {ss : Nat → Pr} {Fs : Nat → Nat → Prop} {pv : Value} {mds : List Mk} {count : Nat} (h : GSt B w bg bl lc bp ss Fs pv mds count) (k : Kept (fun _ => False) w w') : GSt B w' bg bl lc bp ss Fs pv mds count := by
  obtain ⟨cur, h1, h2⟩ := h.list
  exact ⟨k.heap h.block (fun h => h), ⟨cur, k.heap h1 (fun h => h), h2⟩, fun j hj => (h.peers j hj).quiet k, h.apart, ownsRow_kept h.packets k (fun _ _ h => h), h.out, fun m hm => by
    obtain ⟨cur, a, b⟩ := h.knows m hm
    exact ⟨cur, k.heap a (fun h => h), b⟩, h.base⟩

/-- A call on the peer k. -/
theorem GSt.turn {B : Nat → Prop} {w w' : World} {bg bl lc : Nat} {bp : Nat → Nat} {ss : Nat → Pr} {Fs : Nat → Nat → Prop} {pv : Value} {mds : List Mk} {count : Nat} (h : GSt B w bg bl lc bp ss Fs pv mds count) (hB : ∀ b, w.heap.size ≤ b → B b) {k : Nat} (hk : k < 3) {s' : Pr} (T : Turn (bp k) (Fs k) w w' s') :
    ∃ Fs', GSt B w' bg bl lc bp (upd ss k s') Fs' pv mds count ∧ Kept B w w' ∧ Kept (Fs k) w w' ∧ ∀ b, b < w.heap.size → (∀ j, j < 3 → ¬ Fs j b) → ∀ j, j < 3 → ¬ Fs' j b := by
  obtain ⟨F', P', K, N⟩ := T
  obtain ⟨cur, h1, h2⟩ := h.list
  have hlt : ∀ j, j < 3 → ∀ b, Fs j b → b < w.heap.size := fun j hj b hb => (h.peers j hj).lt b hb
  have hnew : ∀ b, F' b → ∀ j, j < 3 → j ≠ k → ¬ Fs j b := fun b hb j hj hjk hjb => by
    rcases N b hb with h1 | h1
    · exact h.apart j k hj hk hjk b hjb h1
    · have := hlt j hj b hjb; omega
  have hout : ∀ b, b < w.heap.size → ¬ Fs k b → ¬ F' b := fun b hb hn hf => by
    rcases N b hf with h1 | h1
    · exact hn h1
    · omega
  refine ⟨upd Fs k F', ⟨K.heap h.block (h.out k hk).1, ⟨cur, K.heap h1 (h.out k hk).2.1, h2⟩, ?_, ?_, ownsRow_kept h.packets K (h.out k hk).2.2.1, ?_, ?_, h.base.1, h.base.2.1, ?_, h.base.2.2.2⟩, K.mono (fun b _ hb => h.base.2.2.1 k hk b hb), K, ?_⟩
  · intro j hj
    by_cases hjk : j = k
    · subst hjk; rw [upd_same, upd_same]; exact P'
    · rw [upd_other _ _ _ _ hjk, upd_other _ _ _ _ hjk]
      exact (h.peers j hj).keep K (fun b hb hbk => h.apart j k hj hk hjk b hb hbk)
  · intro i j hi hj hij b hb
    by_cases hik : i = k
    · subst hik
      rw [upd_same] at hb
      rw [upd_other _ _ _ _ (fun e => hij e.symm)]
      exact hnew b hb j hj (fun e => hij e.symm)
    · rw [upd_other _ _ _ _ hik] at hb
      by_cases hjk : j = k
      · subst hjk; rw [upd_same]; exact fun hf => hnew b hf i hi hij hb
      · rw [upd_other _ _ _ _ hjk]; exact h.apart i j hi hj hij b hb
  · intro j hj
    by_cases hjk : j = k
    · subst hjk
      rw [upd_same]
      refine ⟨hout bg (lt_of_heap h.block) (h.out j hj).1, hout bl (lt_of_heap h1) (h.out j hj).2.1, fun b hb => hout b (h.packets.lt b hb).2 ((h.out j hj).2.2.1 b hb), fun m hm => ?_⟩
      obtain ⟨cur, a, _⟩ := h.knows m hm
      exact hout m.kb (lt_of_heap a) ((h.out j hj).2.2.2 m hm)
    · rw [upd_other _ _ _ _ hjk]; exact h.out j hj
  · intro m hm
    obtain ⟨cur, a, b⟩ := h.knows m hm
    exact ⟨cur, K.heap a ((h.out k hk).2.2.2 m hm), b⟩
  · intro j hj b hb
    by_cases hjk : j = k
    · subst hjk
      rw [upd_same] at hb
      rcases N b hb with h3 | h3
      · exact h.base.2.2.1 j hj b h3
      · exact hB b h3
    · rw [upd_other _ _ _ _ hjk] at hb; exact h.base.2.2.1 j hj b hb
  · intro b hb hn j hj
    by_cases hjk : j = k
    · subst hjk; rw [upd_same]; exact hout b hb (hn j hj)
    · rw [upd_other _ _ _ _ hjk]; exact hn j hj

/-- One more character was inserted. -/
theorem GSt.counted {B : Nat → Prop} {w : World} {bg bl lc : Nat} {bp : Nat → Nat} {ss : Nat → Pr} {Fs : Nat → Nat → Prop} {pv : Value} {mds : List Mk} {count : Nat} (h : GSt B w bg bl lc bp ss Fs pv mds count) (c' : Nat) :
    GSt B (w.setCell ⟨bg, 2, none⟩ (.int .i64 c')) bg bl lc bp ss Fs pv mds c' ∧ Kept (fun b => b = bg) w (w.setCell ⟨bg, 2, none⟩ (.int .i64 c')) := by
  have K : Kept (fun b => b = bg) w (w.setCell ⟨bg, 2, none⟩ (.int .i64 c')) := Kept.setCell (S := fun b => b = bg) (Kept.refl _ w) (p := ⟨bg, 2, none⟩) (fun _ => rfl) _
  obtain ⟨cur, h1, h2⟩ := h.list
  refine ⟨⟨by rw [heap_set_same h.block]; rfl, ⟨cur, K.heap h1 (fun e => ?_), h2⟩, fun j hj => (h.peers j hj).keep K (fun b hb e => (h.out j hj).1 (e ▸ hb)), h.apart, ownsRow_kept h.packets K (fun b hb e => ?_), h.out, fun m hm => ?_, h.base⟩, K⟩
  · rw [e, h.block] at h1; simp at h1
  · subst e; exact own_ne h.packets h.block (by decide) hb
  · obtain ⟨cur, a, b⟩ := h.knows m hm
    refine ⟨cur, K.heap a (fun e => ?_), b⟩
    rw [e, h.block] at a; simp at a

/-- One more packet is there. -/
theorem GSt.made {B : Nat → Prop} {w w7 : World} {bg bl lc : Nat} {bp : Nat → Nat} {ss : Nat → Pr} {Fs : Nat → Nat → Prop} {pv v' : Value} {mds : List Mk} {count : Nat} (h : GSt B w bg bl lc bp ss Fs pv mds count) (hB : ∀ b, w.heap.size ≤ b → B b) (m : Mk) (x : Obj)
    (own : w7.ownsRow 0 51 4 v' (mds.length + 1) (madesCells mds ++ m.cells)) (kp : Kept (fun k => pv.ownBlock = some k) (w.alloc x).drew w7) (nb : ∀ k, v'.ownBlock = some k → pv.ownBlock = some k ∨ (w.alloc x).drew.heap.size ≤ k)
    (hm : ∃ cur, w.heap[m.kb]? = some (.cells cur 3 (0, 0)) ∧ ∀ (i n : Nat), m.o.seen[i]? = some n → cur[i]? = some (.int .i64 (n : Int))) (hmo : ∀ j, j < 3 → ¬ Fs j m.kb) :
    GSt B (w7.setCell ⟨bg, 1, none⟩ v') bg bl lc bp ss Fs v' (mds ++ [m]) count ∧ Kept (fun b => b = bg ∨ pv.ownBlock = some b) w (w7.setCell ⟨bg, 1, none⟩ v') := by
  have k0 : Kept (fun k => pv.ownBlock = some k) w w7 := (((Kept.refl (fun _ => False) w).alloc x).drew.mono (fun _ _ h => h.elim)).trans kp (fun _ _ h => h)
  have kS : Kept (fun b => b = bg) w7 (w7.setCell ⟨bg, 1, none⟩ v') := Kept.setCell (S := fun b => b = bg) (Kept.refl _ w7) (p := ⟨bg, 1, none⟩) (fun _ => rfl) _
  have K : Kept (fun b => b = bg ∨ pv.ownBlock = some b) w (w7.setCell ⟨bg, 1, none⟩ v') := (k0.mono (fun _ _ h => Or.inr h)).trans kS (fun _ _ h => Or.inl h)
  obtain ⟨cur, h1, h2⟩ := h.list
  have hbz := lt_of_heap h.block
  have hnp : ∀ b, pv.ownBlock = some b → b ≠ bg := fun b hb e => by subst e; exact own_ne h.packets h.block (by decide) hb
  have hz : w.heap.size ≤ (w.alloc x).drew.heap.size := by show w.heap.size ≤ (w.alloc x).heap.size; simp
  refine ⟨⟨?_, ⟨cur, K.heap h1 ?_, h2⟩, fun j hj => (h.peers j hj).keep K (fun b hb e => ?_), h.apart, ?_, fun j hj => ⟨(h.out j hj).1, (h.out j hj).2.1, fun b hb => ?_, fun q hq => ?_⟩, fun q hq => ?_, h.base.1, h.base.2.1, h.base.2.2.1, fun b hb => ?_⟩, K⟩
  · rw [heap_set_same (k0.heap h.block (fun e => hnp bg e rfl))]; rfl
  · rintro (e | e)
    · rw [e, h.block] at h1; simp at h1
    · exact own_ne h.packets h1 (by decide) e
  · rcases e with e | e
    · exact (h.out j hj).1 (e ▸ hb)
    · exact (h.out j hj).2.2.1 b e hb
  · rw [List.length_append, madesCells_append]
    have e1 : madesCells [m] = m.cells := by simp [madesCells]
    rw [e1]
    refine ownsRow_kept own kS (fun b hb e => ?_)
    rcases nb b hb with h3 | h3
    · exact hnp b h3 e
    · omega
  · rcases nb b hb with h3 | h3
    · exact (h.out j hj).2.2.1 b h3
    · intro hf
      have := (h.peers j hj).lt b hf
      omega
  · rcases List.mem_append.1 hq with hq | hq
    · exact (h.out j hj).2.2.2 q hq
    · rw [List.mem_singleton.1 hq]; exact hmo j hj
  · have key : ∀ q : Mk, (∃ cur, w.heap[q.kb]? = some (.cells cur 3 (0, 0)) ∧ ∀ (i n : Nat), q.o.seen[i]? = some n → cur[i]? = some (.int .i64 (n : Int))) → ∃ cur, (w7.setCell ⟨bg, 1, none⟩ v').heap[q.kb]? = some (.cells cur 3 (0, 0)) ∧ ∀ (i n : Nat), q.o.seen[i]? = some n → cur[i]? = some (.int .i64 (n : Int)) := by
      rintro q ⟨cur, a, b⟩
      refine ⟨cur, K.heap a ?_, b⟩
      rintro (e | e)
      · rw [e, h.block] at a; simp at a
      · exact own_ne h.packets a (by decide) e
    rcases List.mem_append.1 hq with hq | hq
    · exact key q (h.knows q hq)
    · rw [List.mem_singleton.1 hq]; exact key m hm
  · rcases nb b hb with h3 | h3
    · exact h.base.2.2.2 b h3
    · exact hB b (Nat.le_trans hz h3)

/-- A peer as New gives it. -/
theorem GSt.mono {B B' : Nat → Prop} {w : World} {bg bl lc : Nat} {bp : Nat → Nat} {ss : Nat → Pr} {Fs : Nat → Nat → Prop} {pv : Value} {mds : List Mk} {count : Nat} (h : GSt B w bg bl lc bp ss Fs pv mds count) (hb : ∀ b, B b → B' b) : GSt B' w bg bl lc bp ss Fs pv mds count :=
  ⟨h.block, h.list, h.peers, h.apart, h.packets, h.out, h.knows, hb _ h.base.1, hb _ h.base.2.1, fun k hk b hf => hb _ (h.base.2.2.1 k hk b hf), fun b hp => hb _ (h.base.2.2.2 b hp)⟩

/-- The group's blocks are old ones. -/
theorem GSt.old {B : Nat → Prop} {w : World} {bg bl lc : Nat} {bp : Nat → Nat} {ss : Nat → Pr} {Fs : Nat → Nat → Prop} {pv : Value} {mds : List Mk} {count : Nat} (h : GSt B w bg bl lc bp ss Fs pv mds count) (N : Nat) : GSt (fun b => B b ∧ (b < w.heap.size ∨ N ≤ b)) w bg bl lc bp ss Fs pv mds count := by
  obtain ⟨cur, h1, h2⟩ := h.list
  exact ⟨h.block, ⟨cur, h1, h2⟩, h.peers, h.apart, h.packets, h.out, h.knows, ⟨h.base.1, Or.inl (lt_of_heap h.block)⟩, ⟨h.base.2.1, Or.inl (lt_of_heap h1)⟩, fun k hk b hf => ⟨h.base.2.2.1 k hk b hf, Or.inl ((h.peers k hk).lt b hf)⟩, fun b hp => ⟨h.base.2.2.2 b hp, Or.inl (h.packets.lt b hp).2⟩⟩

def stNew (k : Nat) : Pr := ⟨k, 0, [0, 0, 0], [], [], [[], [], []]⟩

/-- The group while it is being made: i peers are there. -/
structure FSt (w wr : World) (bg : Nat) (i : Nat) (lv : Value) (bp : Nat → Nat) (Fs : Nat → Nat → Prop) : Prop where
  block : wr.heap[bg]? = some (.cells #[lv, .slice none 0 0, .int .i64 0] 45 (0, 0))
  list : wr.ownsRow 0 24 1 lv i ((List.range i).map fun k => .pointer (some ⟨bp k, 0, none⟩))
  peers : ∀ k, k < i → PM wr (bp k) (stNew k) (Fs k)
  apart : ∀ j k, j < i → k < i → j ≠ k → ∀ b, Fs j b → ¬ Fs k b
  out : ∀ k, k < i → ¬ Fs k bg ∧ (∀ b, lv.ownBlock = some b → ¬ Fs k b)
  base : w.heap.size ≤ bg ∧ (∀ k, k < i → ∀ b, Fs k b → w.heap.size ≤ b) ∧ (∀ b, lv.ownBlock = some b → w.heap.size ≤ b)
  kept : Kept (fun _ => False) w wr

theorem info_pPeer : (Try.prog.info? 24).map (fun i => (i.zero, i.size, i.bytes)) = some (some (.pointer none), 1, 8) := by kernel_rfl

set_option maxHeartbeats 2000000 in
set_option maxRecDepth 100000 in
theorem fresh_any (w : World) : Calls Try.prog 18 #[] w fun e' w' => ∃ bg bl lc bp Fs, e' = .returned (.pointer (some ⟨bg, 0, none⟩)) ∧ GSt (fun b => w.heap.size ≤ b) w' bg bl lc bp stNew Fs (.slice none 0 0) [] 0 ∧ Kept (fun _ => False) w w' := by
  go_enter Try.func18, Try.ntmps18
  go_wp2_with fail
  refine (begun_any w).mono ?_
  rintro e1 w1 ⟨rfl, hk1⟩
  obtain ⟨i0, hi0, hz0, hzs, hzb⟩ := info_parts info_pPeer
  go_wp2
  go_loopw [1, 3] (fun ok i wr => ∃ (k : Nat) (lv : Value) (bp : Nat → Nat) (Fs : Nat → Nat → Prop), k ≤ 3 ∧ ok = .bool true ∧ i = .int .i64 k ∧ FSt w wr w1.heap.size k lv bp Fs) (fun _ i _ => 3 - (intOf i).toNat)
  case atStart =>
    refine ⟨0, .slice none 0 0, fun _ => 0, fun _ _ => False, by omega, rfl, rfl, heap_alloc_new w1 _, World.ownsRow_nil _ _ _ _, fun k hk => absurd hk (Nat.not_lt_zero _), fun j k hj => absurd hj (Nat.not_lt_zero _), fun k hk => absurd hk (Nat.not_lt_zero _), ⟨hk1.size, fun k hk => absurd hk (Nat.not_lt_zero _), fun b hb => by simp [Value.ownBlock] at hb⟩, hk1.alloc _⟩
  case round =>
    obtain ⟨k, lv, bp, Fs, hk, rfl, rfl, X⟩ := hrel
    by_cases hlt : k < 3
    · have hlt2 : (k : Int) < 3 := by omega
      go_wp2_with fail
      refine (new_pm k 3 wr (by decide) (by decide) hlt).mono ?_
      rintro e2 w2 ⟨bpn, Fn, rfl, hPn, hFn, hk2⟩
      have hblk2 := hk2.heap X.block (fun h => h)
      have c0 : w2.cell? ⟨w1.heap.size, 0, none⟩ = some lv := by rw [Lib.cell_of_heap hblk2]; rfl
      have fz : ∀ j, w2.frozen? ⟨w1.heap.size, j, none⟩ = false := Lib.frozen_of_heap hblk2
      have hz2 := lt_of_heap hblk2
      have hown2 := ownsRow_kept X.list hk2 (fun _ _ h => h)
      have hkA : Kept (fun _ => False) w2 (w2.alloc (.cells #[.pointer (some ⟨bpn, 0, none⟩)] 24)) := (Kept.refl _ w2).alloc _
      have hnb : (w2.alloc (.cells #[.pointer (some ⟨bpn, 0, none⟩)] 24)).heap[w2.heap.size]? = some (.cells #[.pointer (some ⟨bpn, 0, none⟩)] 24 (0, 0)) := heap_alloc_new w2 _
      obtain ⟨v', w3, hr, hown', hkp, hblk⟩ := append_strong Try.prog _ 42 42 24 i0 _ 1 8 Try.underlying42 hi0 hz0 hzs hzb rfl (by decide) lv k _ (ownsRow_kept hown2 hkA (fun _ _ h => h)) (.slice (some ⟨w2.heap.size, 0, none⟩) 1 1) 1 [.pointer (some ⟨bpn, 0, none⟩)]
        (Src.ofSlice _ Try.underlying42 ⟨w2.heap.size, 0, none⟩ 1 1 _ rfl (fun j u hj => by rw [Addr.add_lit, Lib.cell_of_heap hnb]; simpa using hj) (fun u hu => by simp at hu; subst hu; rfl)) (by decide) (by unfold maxLen; omega) (by omega)
      obtain ⟨av, cv, hveq, _, _⟩ := own_slice hown'
      subst hveq
      have hne : ∀ b, lv.ownBlock = some b → b ≠ w1.heap.size := fun b hb e => own_ne X.list X.block (by decide) (by rw [← e]; exact hb)
      have hk23 : Kept (fun j => lv.ownBlock = some j) w2 w3 := (hkA.mono (fun _ _ h => h.elim)).trans hkp (fun _ _ h => h)
      have hc3 : w3.cell? ⟨w1.heap.size, 0, none⟩ = some lv := hk23.cell' c0 (fun e => hne _ e rfl)
      have hz3 : w1.heap.size < w3.heap.size := Nat.lt_of_lt_of_le hz2 hk23.size
      have hf3 : ∀ j, w3.frozen? ⟨w1.heap.size, j, none⟩ = false := fun j => by rw [hk23.frozen (p := ⟨w1.heap.size, j, none⟩) hz2 (fun e => hne _ e rfl)]; exact fz j
      have HX : Hid (FSt w (w3.setCell ⟨w1.heap.size, 0, none⟩ (.slice av (k + 1) cv)) w1.heap.size (k + 1) (.slice av (k + 1) cv) (upd bp k bpn) (upd Fs k Fn)) := by
        have hkr2 : w.heap.size ≤ wr.heap.size := X.kept.size
        have hk3 : Kept (fun j => lv.ownBlock = some j) wr w3 := (hk2.mono (fun _ _ h => h.elim)).trans hk23 (fun _ _ h => h)
        have kS : Kept (fun j => j = w1.heap.size) w3 (w3.setCell ⟨w1.heap.size, 0, none⟩ (.slice av (k + 1) cv)) := Kept.setCell (S := fun j => j = w1.heap.size) (Kept.refl _ w3) (p := ⟨w1.heap.size, 0, none⟩) (fun _ => rfl) _
        have kA : Kept (fun j => lv.ownBlock = some j ∨ j = w1.heap.size) wr (w3.setCell ⟨w1.heap.size, 0, none⟩ (.slice av (k + 1) cv)) := (hk3.mono (fun _ _ h => Or.inl h)).trans kS (fun _ _ h => Or.inr h)
        have kN : Kept (fun j => lv.ownBlock = some j ∨ j = w1.heap.size) w2 (w3.setCell ⟨w1.heap.size, 0, none⟩ (.slice av (k + 1) cv)) := (hk23.mono (fun _ _ h => Or.inl h)).trans kS (fun _ _ h => Or.inr h)
        have hFnew : ∀ b, Fn b → ¬ (lv.ownBlock = some b ∨ b = w1.heap.size) := fun b hb hh => by
          have h1 := hFn b hb
          rcases hh with h | h
          · have := (X.list.lt b h).2; omega
          · have := lt_of_heap X.block; omega
        have hvb : ∀ b, (Value.slice av (k + 1) cv).ownBlock = some b → lv.ownBlock = some b ∨ w2.heap.size ≤ b := fun b hb => by
          rcases hblk b hb with h | h
          · exact Or.inl h
          · simp at h; exact Or.inr (by omega)
        refine ⟨?_, ?_, ?_, ?_, ?_, ⟨X.base.1, ?_, ?_⟩, ?_⟩
        · rw [heap_set_same (hk23.heap hblk2 (fun e => hne _ e rfl))]; rfl
        · have hrange : (List.range (k + 1)).map (fun j => Value.pointer (some ⟨upd bp k bpn j, 0, none⟩)) = (List.range k).map (fun j => Value.pointer (some ⟨bp j, 0, none⟩)) ++ [.pointer (some ⟨bpn, 0, none⟩)] := by
            rw [List.range_succ, List.map_append]
            congr 1
            · apply List.map_congr_left
              intro j hj
              rw [upd_other _ _ _ _ (by have := List.mem_range.1 hj; omega)]
            · simp [upd_same]
          rw [hrange]
          refine ownsRow_kept hown' kS (fun b hb e => ?_)
          rcases hvb b hb with h | h
          · exact hne b h e
          · omega
        · intro j hj
          by_cases hjk : j = k
          · subst hjk; rw [upd_same, upd_same]; exact hPn.keep kN hFnew
          · rw [upd_other _ _ _ _ hjk, upd_other _ _ _ _ hjk]
            refine (X.peers j (by omega)).keep kA (fun b hb hh => ?_)
            rcases hh with h | h
            · exact (X.out j (by omega)).2 b h hb
            · subst h; exact (X.out j (by omega)).1 hb
        · intro i j hi hj hij b hb
          have hold : ∀ q, q < k → ∀ b, Fs q b → b < wr.heap.size := fun q hq b hb => (X.peers q hq).lt b hb
          by_cases hik : i = k
          · subst hik
            rw [upd_same] at hb
            rw [upd_other _ _ _ _ (fun e => hij e.symm)]
            intro hf
            have := hold j (by omega) b hf
            have := hFn b hb
            omega
          · rw [upd_other _ _ _ _ hik] at hb
            by_cases hjk : j = k
            · subst hjk; rw [upd_same]; intro hf
              have := hold i (by omega) b hb
              have := hFn b hf
              omega
            · rw [upd_other _ _ _ _ hjk]; exact X.apart i j (by omega) (by omega) hij b hb
        · intro j hj
          have hbz := lt_of_heap X.block
          by_cases hjk : j = k
          · subst hjk
            rw [upd_same]
            refine ⟨fun hf => by have := hFn _ hf; omega, fun b hb hf => ?_⟩
            rcases hvb b hb with h | h
            · have := (X.list.lt b h).2; have := hFn b hf; omega
            · have := hPn.lt b hf; omega
          · rw [upd_other _ _ _ _ hjk]
            refine ⟨(X.out j (by omega)).1, fun b hb hf => ?_⟩
            rcases hvb b hb with h | h
            · exact (X.out j (by omega)).2 b h hf
            · have := (X.peers j (by omega)).lt b hf; have := hk2.size; omega
        · intro j hj b hb
          by_cases hjk : j = k
          · subst hjk; rw [upd_same] at hb; have := hFn b hb; omega
          · rw [upd_other _ _ _ _ hjk] at hb; exact X.base.2.1 j (by omega) b hb
        · intro b hb
          rcases hvb b hb with h | h
          · exact X.base.2.2 b h
          · have := hk2.size; omega
        · refine X.kept.trans kA (fun i hi hh => ?_)
          rcases hh with h | h
          · have := X.base.2.2 i h; omega
          · have := X.base.1; omega
      clear X hPn hFn hblk2 hown2 hkA hnb hown' hkp hblk hne hk23 hk2
      go_wp2_with (at_builtin; refine Lib.wpList_append_run _ rfl _ _ _ _ rfl _ _ rfl rfl _ _ (hr _) ?_)
      go_roundw
      case rel => exact ⟨k + 1, _, _, _, by omega, rfl, by go_num, HX.out⟩
      case measure => simp [intOf]; omega
    · have hk3 : k = 3 := by omega
      subst hk3
      go_wp2
      go_ret
      rcases X.list.2 with ⟨_, h0⟩ | ⟨g, cap, cur, rfl, _, hg, hnc, hm, hsz, htk⟩
      · omega
      · refine ⟨w1.heap.size, g, cap, bp, Fs, rfl, ⟨X.block, ⟨cur, hg, fun j hj => ?_⟩, X.peers, X.apart, World.ownsRow_nil _ _ _ _, fun j hj => ⟨(X.out j hj).1, (X.out j hj).2 g rfl, fun b hb => (by simp [Value.ownBlock] at hb), fun m hm => (by cases hm)⟩, fun m hm => (by cases hm), X.base.1, X.base.2.2 g rfl, X.base.2.1, fun b hb => by simp [Value.ownBlock] at hb⟩, X.kept⟩
        rw [← Array.getElem?_toList]
        have h1 : ((List.range 3).map fun q => Value.pointer (some ⟨bp q, 0, none⟩))[j]? = some (.pointer (some ⟨bp j, 0, none⟩)) := by
          rw [List.getElem?_map, List.getElem?_range hj]; rfl
        rw [← h1, ← htk, List.getElem?_take, if_pos (by omega)]

end Go.Proofs.Ytgfafbanahiigaa
