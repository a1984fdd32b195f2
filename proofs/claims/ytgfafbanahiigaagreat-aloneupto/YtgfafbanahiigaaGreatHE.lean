import Derived.Test.YtgfafbanahiigaaGreatHD
import Derived.Test.YtgfafbanahiigaaGreatV8
set_option linter.unusedVariables false
set_option linter.unusedSimpArgs false
namespace Go.Proofs.YtgfafbanahiigaaGreat
open Go.RowKit Go.Chorus
structure PeerS (w : World) (bp : Nat) (s : Pr) (bk : Log) (rv hv : Value) : Prop where
 block : w.heap[bp]? = some (.cells #[.int .u8 s.me, .int .u32 s.clock, .slice (some ⟨bk.b, 0, none⟩) s.known.length s.known.length, rv, hv] 69 (0, 0))
 log : LogAt w bk s.known
 row : w.ownsRow 0 102 4 rv s.row.length (rowCells s.row)
 off : ∀ v ∈ bk.vs, ∀ b, v.ownBlock = some b → hv.ownBlock ≠ some b
 ops : bk.ms.map (List.map MOp.o) = s.log
theorem PeerS.cells {w : World} {bp : Nat} {s : Pr} {bk : Log} {rv hv : Value} (h : PeerS w bp s bk rv hv) :
  w.cell? ⟨bp, 0, none⟩ = some (.int .u8 s.me) ∧ w.cell? ⟨bp, 1, none⟩ = some (.int .u32 s.clock) ∧ w.cell? ⟨bp, 2, none⟩ = some (.slice (some ⟨bk.b, 0, none⟩) s.known.length s.known.length) ∧ w.cell? ⟨bp, 3, none⟩ = some rv ∧ w.cell? ⟨bp, 4, none⟩ = some hv := by
 refine ⟨?_, ?_, ?_, ?_, ?_⟩ <;> (rw [Lib.cell_of_heap h.block]; rfl)
def Foot (bp : Nat) (bk : Log) (rv : Value) (k : Nat) : Prop := k = bp ∨ bk.Foot k ∨ rv.ownBlock = some k
theorem PeerS.keep {S : Nat → Prop} {w w' : World} {bp : Nat} {s : Pr} {bk : Log} {rv hv : Value} (h : PeerS w bp s bk rv hv) (k : Kept S w w') (h1 : ∀ b, Foot bp bk rv b → ¬ S b) (h2 : ∀ b, bk.Seen b → ¬ S b) : PeerS w' bp s bk rv hv :=
 ⟨k.heap h.block (h1 _ (Or.inl rfl)), h.log.keep k (fun b hb => h1 b (Or.inr (Or.inl hb))) h2, ownsRow_kept h.row k (fun b hb => h1 b (Or.inr (Or.inr hb))), h.off, h.ops⟩
theorem PeerS.quiet {w w' : World} {bp : Nat} {s : Pr} {bk : Log} {rv hv : Value} (h : PeerS w bp s bk rv hv) (k : Kept (fun _ => False) w w') : PeerS w' bp s bk rv hv := h.keep k (fun _ _ h => h) (fun _ _ h => h)
theorem PeerS.lt {w : World} {bp : Nat} {s : Pr} {bk : Log} {rv hv : Value} (h : PeerS w bp s bk rv hv) : (∀ k, Foot bp bk rv k → k < w.heap.size) ∧ ∀ k, bk.Seen k → k < w.heap.size := by
 refine ⟨?_, h.log.lt.2⟩
 rintro k (rfl | hk | hk)
 ·exact lt_of_heap h.block
 ·exact h.log.lt.1 k hk
 ·exact (h.row.lt k hk).2
theorem PeerS.not {w : World} {bp : Nat} {s : Pr} {bk : Log} {rv hv : Value} (h : PeerS w bp s bk rv hv) {b : Nat} {cs : Array Value} {t : TypeId} {f : Nat × Nat} (hb : w.heap[b]? = some (.cells cs t f)) (h0 : t ≠ 69) (h1 : t ≠ 67) (h2 : t ≠ 115) (h3 : t ≠ 102) : ¬ Foot bp bk rv b := by
 rintro (rfl | hk | hk)
 ·have := h.block
  rw [hb] at this
  simp at this
  exact h0 this.2.1
 ·exact h.log.off hb h1 h2 hk
 ·exact own_ne h.row hb h3 hk
structure HeldAt (w : World) (hv : Value) (ms : List MOp) : Prop where
 row : w.ownsRow 0 115 8 hv ms.length (opsCells ms)
 seen : ∀ m ∈ ms, SeenAt w m
def Own (bp : Nat) (bk : Log) (rv hv : Value) (ms : List MOp) (k : Nat) : Prop := Foot bp bk rv k ∨ hv.ownBlock = some k ∨ (∃ m ∈ ms, m.g = k) ∨ bk.Seen k
def PM (w : World) (bp : Nat) (s : Pr) (F : Nat → Prop) : Prop := ∃ bk rv hv ms, PeerS w bp s bk rv hv ∧ HeldAt w hv ms ∧ ms.map MOp.o = s.held ∧ F = Own bp bk rv hv ms
theorem HeldAt.keep {S : Nat → Prop} {w w' : World} {hv : Value} {ms : List MOp} (h : HeldAt w hv ms) (k : Kept S w w') (h1 : ∀ b, hv.ownBlock = some b → ¬ S b) (h2 : ∀ m ∈ ms, ¬ S m.g) : HeldAt w' hv ms :=
 ⟨ownsRow_kept h.row k h1, fun m hm => (h.seen m hm).keep k (h2 m hm)⟩
theorem HeldAt.quiet {w w' : World} {hv : Value} {ms : List MOp} (h : HeldAt w hv ms) (k : Kept (fun _ => False) w w') : HeldAt w' hv ms := h.keep k (fun _ _ h => h) (fun _ _ h => h)
theorem HeldAt.apart {w : World} {bp : Nat} {s : Pr} {bk : Log} {rv hv : Value} {ms : List MOp} (h : HeldAt w hv ms) (p : PeerS w bp s bk rv hv) : (∀ b, hv.ownBlock = some b → ¬ Foot bp bk rv b) ∧ (∀ m ∈ ms, ¬ Foot bp bk rv m.g) ∧ (∀ b, hv.ownBlock = some b → ¬ bk.Seen b) := by
 refine ⟨?_, ?_, ?_⟩
 ·intro b hb hf
  rcases hf with rfl | (rfl | ⟨v, hv, hk⟩) | hf
  ·exact own_ne h.row p.block (by decide) hb
  ·exact own_ne h.row p.log.block (by decide) hb
  ·exact p.off v hv b hk hb
  ·rcases p.row.2 with ⟨e, _⟩ | ⟨g, cap, cur, e, _, hg, _⟩
   ·rw [e] at hf; simp [Value.ownBlock] at hf
   ·rw [e] at hf; simp [Value.ownBlock] at hf; subst hf
    exact own_ne h.row hg (by decide) hb
 ·intro m hm
  obtain ⟨cur, hg, _⟩ := h.seen m hm
  exact p.not hg (by decide) (by decide) (by decide) (by decide)
 ·rintro b hb ⟨l, hl, m, hm, rfl⟩
  obtain ⟨cur, a, _⟩ := p.log.seen l hl m hm
  exact own_ne h.row a (by decide) hb
theorem HeldAt.foot {w w' : World} {bp : Nat} {s : Pr} {bk : Log} {rv hv : Value} {ms : List MOp} (h : HeldAt w hv ms) (p : PeerS w bp s bk rv hv) (k : Kept (Foot bp bk rv) w w') : HeldAt w' hv ms := h.keep k (h.apart p).1 (h.apart p).2.1
theorem HeldAt.lt {w : World} {hv : Value} {ms : List MOp} (h : HeldAt w hv ms) : ∀ b, hv.ownBlock = some b → b < w.heap.size := fun b hb => (h.row.lt b hb).2
theorem PM.lt {w : World} {bp : Nat} {s : Pr} {F : Nat → Prop} (h : PM w bp s F) : ∀ k, F k → k < w.heap.size := by
 obtain ⟨bk, rv, hv, ms, h1, h2, _, rfl⟩ := h
 intro k hk
 rcases hk with hk | hk | ⟨m, hm, rfl⟩ | hk
 ·exact h1.lt.1 k hk
 ·exact (h2.row.lt k hk).2
 ·obtain ⟨cur, hg, _⟩ := h2.seen m hm
  exact lt_of_heap hg
 ·exact h1.lt.2 k hk
theorem PM.keep {S : Nat → Prop} {w w' : World} {bp : Nat} {s : Pr} {F : Nat → Prop} (h : PM w bp s F) (k : Kept S w w') (hS : ∀ j, F j → ¬ S j) : PM w' bp s F := by
 obtain ⟨bk, rv, hv, ms, h1, h2, h3, rfl⟩ := h
 exact ⟨bk, rv, hv, ms, h1.keep k (fun b hb => hS b (Or.inl hb)) (fun b hb => hS b (Or.inr (Or.inr (Or.inr hb)))), h2.keep k (fun b hb => hS b (Or.inr (Or.inl hb))) (fun m hm => hS _ (Or.inr (Or.inr (Or.inl ⟨m, hm, rfl⟩)))), h3, rfl⟩
theorem PM.quiet {w w' : World} {bp : Nat} {s : Pr} {F : Nat → Prop} (h : PM w bp s F) (k : Kept (fun _ => False) w w') : PM w' bp s F := h.keep k (fun _ _ h => h)
def Turn (bp : Nat) (F : Nat → Prop) (w w' : World) (s' : Pr) : Prop := ∃ F', PM w' bp s' F' ∧ Kept F w w' ∧ ∀ k, F' k → F k ∨ w.heap.size ≤ k
theorem Turn.stay {bp : Nat} {F : Nat → Prop} {w w' : World} {s : Pr} (h : PM w bp s F) (k : Kept (fun _ => False) w w') : Turn bp F w w' s := ⟨F, h.quiet k, k.mono (fun _ _ h => h.elim), fun _ h => Or.inl h⟩
theorem Turn.quiet {bp : Nat} {F : Nat → Prop} {w w' w'' : World} {s : Pr} (h : Turn bp F w w' s) (k : Kept (fun _ => False) w' w'') : Turn bp F w w'' s := by
 obtain ⟨F', a, b, c⟩ := h
 exact ⟨F', a.quiet k, b.trans k (fun _ _ h => h.elim), c⟩
structure Fit (N : Nat) (s : Pr) : Prop where
 len : s.known.length = N
 n1 : 1 ≤ N
 n8 : N ≤ 8
 me : s.me < N
 known : ∀ n ∈ s.known, n < 4294967296
 clock : s.clock < 4294967296
 held : ∀ o ∈ s.held, RightOp N o
 most : s.held.length ≤ 16
 row : ∀ e ∈ s.row, e.Fits
 log : ∀ l ∈ s.log, ∀ o ∈ l, RightOp N o
def psize (s : Pr) : Nat := s.row.length + s.held.length
theorem insertEl_length (es : List El) (c p bc bp : Nat) (ch : Int) : (insertEl es c p bc bp ch).length ≤ es.length + 1 := by
 unfold insertEl
 split
 ·omega
 ·simp; omega
theorem insertEl_fits {es : List El} {c p bc bp : Nat} {ch : Int} (h : ∀ e ∈ es, e.Fits) (hn : (⟨c, p, ch, false⟩ : El).Fits) : ∀ e ∈ insertEl es c p bc bp ch, e.Fits := by
 unfold insertEl
 split
 ·exact h
 ·intro e he
  simp only [List.mem_append, List.mem_cons] at he
  rcases he with he | rfl | he
  ·exact h e (List.mem_of_mem_take he)
  ·exact hn
  ·exact h e (List.mem_of_mem_drop he)
theorem killEl_length (es : List El) (c p : Nat) : (killEl es c p).length = es.length := by
 unfold killEl; split <;> simp
theorem killEl_fits {es : List El} {c p : Nat} (h : ∀ e ∈ es, e.Fits) : ∀ e ∈ killEl es c p, e.Fits := by
 unfold killEl
 split
 ·intro e he
  obtain ⟨i, hi, rfl⟩ := List.getElem_of_mem he
  rw [List.getElem_modify]
  have hi2 : i < es.length := by simpa using hi
  have hh : (es[i]'hi2).Fits := h _ (List.getElem_mem _)
  split
  ·exact hh
  ·exact hh
 ·exact h
theorem Fit.k {N : Nat} {s : Pr} (h : Fit N s) (j : Nat) : s.k j < 4294967296 := by
 unfold Pr.k
 rw [List.getD_eq_getElem?_getD]
 cases hj : s.known[j]? with
 | none => simp
 | some n => exact h.known n (List.mem_of_getElem? hj)
theorem Fit.apply {N : Nat} {s : Pr} (h : Fit N s) {o : Ope} (ho : RightOp N o) (hc : o.num = s.k o.peer + 1) : Fit N (s.apply o) := by
 have hch : (o.char : Int) ≤ 2147483647 := by
  have := ho.char
  split at this <;> omega
 refine ⟨?_, h.n1, h.n8, h.me, ?_, ?_, h.held, h.most, ?_, ?_⟩
 ·show (s.known.set _ _).length = N
  rw [List.length_set]; exact h.len
 ·intro n hn
  rcases List.mem_or_eq_of_mem_set hn with hn | rfl
  ·exact h.known n hn
  ·have := ho.num; omega
 ·show max s.clock o.clock < _
  have := ho.clock; have := h.clock; omega
 ·show ∀ e ∈ (if o.ins then _ else _), El.Fits e
  split
  ·exact insertEl_fits h.row ⟨ho.clock.2, by have := ho.peer; have := h.n8; show o.peer < 256; omega, by show (-2147483648 : Int) ≤ (o.char : Int); omega, hch⟩
  ·exact killEl_fits h.row
 ·intro l hl
  have hl' : l ∈ s.log.modify o.peer (· ++ [o]) := hl
  obtain ⟨i, hi, rfl⟩ := List.getElem_of_mem hl'
  have hi2 : i < s.log.length := by simpa using hi
  intro q hq
  rw [List.getElem_modify] at hq
  split at hq
  ·rcases List.mem_append.1 hq with hq | hq
   ·exact h.log _ (List.getElem_mem hi2) q hq
   ·rw [List.mem_singleton.1 hq]; exact ho
  ·exact h.log _ (List.getElem_mem hi2) q hq
theorem size_apply (s : Pr) (o : Ope) : psize (s.apply o) ≤ psize s + 1 := by
 unfold psize
 show (if o.ins then _ else _ : List El).length + s.held.length ≤ _
 split
 ·have := insertEl_length s.row o.clock o.peer o.nclock o.npeer o.char; omega
 ·rw [killEl_length]; omega
theorem made_nils (n : Nat) : madeCells #[Value.slice none 0 0] (n * 1) = (List.replicate n (Value.slice none 0 0)).toArray := by
 apply Array.ext
 ·simp [madeCells]
 ·intro i h1 h2
  simp [madeCells, Nat.mod_one]
set_option maxHeartbeats 400000 in
theorem hNew_any (peers : Nat) (w : World) (h2 : peers ≤ 8) :
  Calls Tryz.prog 25 #[.int .i64 peers] w fun e' w' => ∃ g, e' = .returned (.agg #[.slice (some ⟨g, 0, none⟩) peers peers]) ∧ w'.heap[g]? = some (.cells (List.replicate peers (Value.slice none 0 0)).toArray 67 (0, 0)) ∧ w.heap.size ≤ g ∧ Kept (fun _ => False) w w' := by
 obtain ⟨i0, hi, hz0, hz1, hz2⟩ := info_parts info_ops
 have hmk : ∀ w : World, (Instr.makeSlice 59 (.int .i64 peers) (.int .i64 peers)).run Tryz.prog w = .ok (.slice (some ⟨w.heap.size, 0, none⟩) peers peers) (w.alloc (.cells (List.replicate peers (Value.slice none 0 0)).toArray 67)) := fun w => by
  rw [run_make w 59 67 i0 (.slice none 0 0) Tryz.underlying59 hi hz0 .i64 .i64 peers peers (by omega) (by omega) (by rw [hz2]; omega) (by omega), hz1, ← made_nils]; rfl
 clear hi hz0 hz1 hz2
 go_enter Tryz.func25, Tryz.ntmps25
 go_wp2
 refine bodyPost_ret (v := .agg #[.slice (some ⟨w.heap.size + 1, 0, none⟩) peers peers]) (by simp [results, Tryz.results25, go_sem]) rfl ⟨w.heap.size + 1, rfl, ?_, by omega, ((Kept.refl _ _).alloc _).alloc _⟩
 have := heap_alloc_new (w.alloc (Obj.cells #[Value.slice (some ⟨w.heap.size + 1, 0, none⟩) peers peers] 61)) (Obj.cells (Array.replicate peers (Value.slice none 0 0)) 67)
 simpa using this
set_option maxHeartbeats 400000 in
theorem new_any (peer peers : Nat) (w : World) (h1 : 1 ≤ peers) (h2 : peers ≤ 8) (h4 : peer < peers) :
  Calls Tryz.prog 9 #[.int .i64 peer, .int .i64 peers] w fun e' w' => ∃ bp bk, e' = .returned (.tuple #[.pointer (some ⟨bp, 0, none⟩), .int .i64 0]) ∧
   PeerS w' bp ⟨peer, 0, List.replicate peers 0, [], [], List.replicate peers []⟩ bk (.slice none 0 0) (.slice none 0 0) ∧ w.heap.size ≤ bp ∧ (∀ k, bk.Foot k → w.heap.size ≤ k) ∧ (∀ k, ¬ bk.Seen k) ∧ Kept (fun _ => False) w w' := by
 have e1 : decide ((peers : Int) < 1) = false := by rw [decide_eq_false_iff_not]; omega
 have e2 : decide ((8 : Int) < peers) = false := by rw [decide_eq_false_iff_not]; omega
 have e3 : decide ((peer : Int) < 0) = false := by rw [decide_eq_false_iff_not]; omega
 have e4 : decide ((peers : Int) ≤ peer) = false := by simpa using h4
 go_enter Tryz.func9, Tryz.ntmps9
 go_wp2_with fail
 refine (hNew_any peers _ h2).mono ?_
 rintro e' w' ⟨g, rfl, hg, hgz, hk⟩
 have hgw := lt_of_heap hg
 go_wp2
 go_ret2
 have hal : ∀ x : Obj, Kept (fun _ => False) w' (w'.alloc x) := fun x => (Kept.refl _ _).alloc x
 refine ⟨w'.heap.size, ⟨g, List.replicate peers (.slice none 0 0), List.replicate peers []⟩, rfl, ⟨?_, ⟨?_, ?_, ?_, ?_, ?_, ?_⟩, World.ownsRow_nil _ _ _ _, ?_, ?_⟩, ?_, ?_, ?_, hk.alloc _⟩
 ·have := heap_alloc_new w' (Obj.cells #[Value.int .u8 peer, Value.int .u32 0, Value.slice (some ⟨g, 0, none⟩) peers peers, Value.slice none 0 0, Value.slice none 0 0] 69)
  simpa using this
 ·exact (hal _).heap hg (fun h => h)
 ·simp
 ·simp
 ·intro i v l hv hl
  have hv := List.eq_of_mem_replicate (List.mem_of_getElem? hv)
  have hl := List.eq_of_mem_replicate (List.mem_of_getElem? hl)
  subst hv hl
  exact World.ownsRow_nil _ _ _ _
 ·intro i j v u b hv hu hb
  have hv := List.eq_of_mem_replicate (List.mem_of_getElem? hv)
  subst hv
  simp [Value.ownBlock] at hb
 ·intro l hl m hm
  have hl := List.eq_of_mem_replicate hl
  subst hl
  cases hm
 ·intro v hv b hb
  have hv := List.eq_of_mem_replicate hv
  subst hv
  simp [Value.ownBlock] at hb
 ·simp
 ·exact hk.size
 ·rintro k (rfl | ⟨v, hv, hb⟩)
  ·exact hgz
  ·have hv := List.eq_of_mem_replicate hv
   subst hv
   simp [Value.ownBlock] at hb
 ·rintro k ⟨l, hl, m, hm, _⟩
  have hl := List.eq_of_mem_replicate hl
  subst hl
  cases hm
set_option maxHeartbeats 400000 in
theorem known_any (s : Pr) (bp : Nat) (bk : Log) (rv hv : Value) (w : World) (h : PeerS w bp s bk rv hv) (hn : s.known.length ≤ 8) (hf : ∀ n ∈ s.known, n < 4294967296) :
  Calls Tryz.prog 15 #[.pointer (some ⟨bp, 0, none⟩)] w fun e' w' => e' = .returned (.slice (some ⟨w.heap.size, 0, none⟩) s.known.length s.known.length) ∧
   w'.heap[w.heap.size]? = some (.cells (i64s s.known) 3 (0, 0)) ∧ Kept (fun _ => False) w w' := by
 obtain ⟨known, hkn⟩ : ∃ known, s.known = known := ⟨_, rfl⟩
 obtain ⟨c0, c1, c2, c3, c4⟩ := h.cells
 have hL := h.log
 rw [hkn] at hn hf c2 hL ⊢
 obtain ⟨i0, hi, hz0, hz1, hz2⟩ := info_parts info_int
 have hmk : ∀ w : World, (Instr.makeSlice 30 (.int .i64 known.length) (.int .i64 known.length)).run Tryz.prog w = .ok (.slice (some ⟨w.heap.size, 0, none⟩) known.length known.length) (w.alloc (.cells (i64s (List.replicate known.length 0)) 3)) := fun w => by
  rw [run_make w 30 3 i0 (.int .i64 0) Tryz.underlying30 hi hz0 .i64 .i64 known.length known.length (by omega) (by omega) (by rw [hz2]; omega) (by omega), hz1, ← made_zeros64]; rfl
 clear hi hz0 hz1 hz2
 have hb := lt_of_heap h.block
 have hW : ∀ x : Obj, Kept (fun _ => False) w (w.alloc x) := fun x => (Kept.refl _ _).alloc x
 go_enter Tryz.func15, Tryz.ntmps15
 go_wp2_with fail
 refine (hPeers_any bp 2 known.length known.length _ _ c2).mono ?_
 rintro e1 w1 ⟨rfl, rfl⟩
 go_wp2_with fail
 refine (hCounts_log bp 2 known.length bk known _ ((hW _).cell' c2 (fun h => h)) (hL.quiet (hW _)) hn hf).mono ?_
 rintro e2 w2 ⟨rfl, hc2, hk2⟩
 have hA := hk2.heap (heap_alloc_new w1 (.cells (i64s (List.replicate known.length 0)) 3)) (fun h => h)
 have hk12 : Kept (fun _ => False) w1 w2 := (hW _).trans' hk2
 have hsz : (w1.alloc (.cells (i64s (List.replicate known.length 0)) 3)).heap.size = w1.heap.size + 1 := by simp
 rw [hsz] at hc2 ⊢
 have hne : w1.heap.size + 1 ≠ w1.heap.size := by omega
 have hcz := lt_of_heap hc2
 clear h c0 c1 c2 c3 c4 hL hk2
 go_wp2
 go_loopw [18] (fun i wr => ∃ k : Nat, k ≤ known.length ∧ i = .int .i64 k ∧ wr.heap[w1.heap.size]? = some (.cells (i64s (filled known k)) 3 (0, 0)) ∧ wr.heap[w1.heap.size + 1]? = some (.cells (u32s known) 63 (0, 0)) ∧ Kept (fun _ => False) w1 wr) (fun i _ => known.length - (intOf i).toNat)
 case atStart => exact ⟨0, Nat.zero_le _, rfl, by rw [filled_zero]; exact hA, hc2, hk12⟩
 case round =>
  obtain ⟨k, hk, rfl, hc, hcu, hkp⟩ := hrel
  by_cases hlt : k < known.length
  ·obtain ⟨n, hek⟩ : ∃ n, known[k]? = some n := ⟨_, List.getElem?_eq_getElem hlt⟩
   have g0 : wr.cell? ⟨w1.heap.size + 1, k, none⟩ = some (.int .u32 n) := by rw [Lib.cell_of_heap hcu, u32s_at, hek]; rfl
   have hn2 := hf n (List.mem_of_getElem? hek)
   have gsz : w1.heap.size < wr.heap.size := lt_of_heap hc
   have gsz2 : w1.heap.size + 1 < wr.heap.size := lt_of_heap hcu
   obtain ⟨v, g1⟩ : ∃ v, wr.cell? ⟨w1.heap.size, k, none⟩ = some v := by
    rw [Lib.cell_of_heap hc]; exact ⟨_, Array.getElem?_eq_getElem (by simp [i64s, filled_length known k hk]; exact hlt)⟩
   have g2 : wr.frozen? ⟨w1.heap.size, k, none⟩ = false := Lib.frozen_of_heap hc k
   have HC : Hid ((wr.setCell ⟨w1.heap.size, k, none⟩ (.int .i64 n)).heap[w1.heap.size]? = some (.cells (i64s (filled known (k + 1))) 3 (0, 0)) ∧ (wr.setCell ⟨w1.heap.size, k, none⟩ (.int .i64 n)).heap[w1.heap.size + 1]? = some (.cells (u32s known) 63 (0, 0))) := by
    refine ⟨by rw [i64s_filled known k n hek]; exact heap_set_same hc k _, ?_⟩
    rw [Below.heap_setCell _ _ _ _ hne]; exact hcu
   clear hek hc hcu
   go_wp2
   go_roundw
   case rel => exact ⟨k + 1, by omega, by go_num, HC.out.1, HC.out.2, hkp.setCell (fun h => absurd h (Nat.lt_irrefl _)) _⟩
   case measure => simp [intOf]; omega
  ·have hke : k = known.length := by omega
   subst hke
   rw [filled_all] at hc
   go_wp2
   go_ret
   exact ⟨rfl, hc, hkp⟩
end Go.Proofs.YtgfafbanahiigaaGreat
