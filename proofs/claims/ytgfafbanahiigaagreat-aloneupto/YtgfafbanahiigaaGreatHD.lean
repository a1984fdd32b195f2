import Derived.Deep.QuietTactic
import Derived.BigQuiet
import Derived.Test.YtgfafbanahiigaaGreatV6
import Derived.Test.YtgfafbanahiigaaGreatMA
import Derived.Test.YtgfafbanahiigaaGreatM9
set_option linter.unusedVariables false
set_option linter.unusedSimpArgs false
namespace Go.Proofs.YtgfafbanahiigaaGreat
open Go.RowKit Go.Chorus
structure Log where
 b : Nat
 vs : List Value
 ms : List (List MOp)
def SeenAt (w : World) (m : MOp) : Prop := ∃ cur, w.heap[m.g]? = some (.cells cur 63 (0, 0)) ∧ ∀ (i n : Nat), m.o.seen[i]? = some n → cur[i]? = some (.int .u32 (n : Int))
theorem SeenAt.keep {S : Nat → Prop} {w w' : World} {m : MOp} (h : SeenAt w m) (k : Kept S w w') (hS : ¬ S m.g) : SeenAt w' m := by
 obtain ⟨cur, a, b⟩ := h
 exact ⟨cur, k.heap a hS, b⟩
structure LogAt (w : World) (K : Log) (known : List Nat) : Prop where
 block : w.heap[K.b]? = some (.cells K.vs.toArray 67 (0, 0))
 lenV : K.vs.length = known.length
 count : known = K.ms.map List.length
 rows : ∀ (i : Nat) (v : Value) (l : List MOp), K.vs[i]? = some v → K.ms[i]? = some l → w.ownsRow 0 115 8 v l.length (opsCells l)
 apart : ∀ (i j : Nat) (v u : Value) (b : Nat), K.vs[i]? = some v → K.vs[j]? = some u → v.ownBlock = some b → u.ownBlock = some b → i = j
 seen : ∀ l ∈ K.ms, ∀ m ∈ l, SeenAt w m
def Log.Foot (K : Log) (k : Nat) : Prop := k = K.b ∨ ∃ v ∈ K.vs, v.ownBlock = some k
def Log.Seen (K : Log) (k : Nat) : Prop := ∃ l ∈ K.ms, ∃ m ∈ l, m.g = k
theorem LogAt.lenM {w : World} {K : Log} {known : List Nat} (h : LogAt w K known) : K.ms.length = known.length := by
 have := congrArg List.length h.count
 simpa using this.symm
theorem LogAt.at {w : World} {K : Log} {known : List Nat} (h : LogAt w K known) {v : Value} (hv : v ∈ K.vs) : ∃ l ∈ K.ms, w.ownsRow 0 115 8 v l.length (opsCells l) := by
 obtain ⟨i, hi, rfl⟩ := List.getElem_of_mem hv
 have hl : i < K.ms.length := by rw [h.lenM, ← h.lenV]; exact hi
 exact ⟨K.ms[i], List.getElem_mem _, h.rows i _ _ (List.getElem?_eq_getElem hi) (List.getElem?_eq_getElem hl)⟩
theorem LogAt.keep {S : Nat → Prop} {w w' : World} {K : Log} {known : List Nat} (h : LogAt w K known) (k : Kept S w w') (h1 : ∀ b, K.Foot b → ¬ S b) (h2 : ∀ b, K.Seen b → ¬ S b) : LogAt w' K known :=
 ⟨k.heap h.block (h1 _ (Or.inl rfl)), h.lenV, h.count, fun i v l hv hl => ownsRow_kept (h.rows i v l hv hl) k (fun b hb => h1 b (Or.inr ⟨v, List.mem_of_getElem? hv, hb⟩)), h.apart, fun l hl m hm => (h.seen l hl m hm).keep k (h2 _ ⟨l, hl, m, hm, rfl⟩)⟩
theorem LogAt.quiet {w w' : World} {K : Log} {known : List Nat} (h : LogAt w K known) (k : Kept (fun _ => False) w w') : LogAt w' K known := h.keep k (fun _ _ h => h) (fun _ _ h => h)
theorem LogAt.lt {w : World} {K : Log} {known : List Nat} (h : LogAt w K known) : (∀ k, K.Foot k → k < w.heap.size) ∧ ∀ k, K.Seen k → k < w.heap.size := by
 constructor
 ·rintro k (rfl | ⟨v, hv, hb⟩)
  ·exact lt_of_heap h.block
  ·obtain ⟨l, _, hr⟩ := h.at hv
   exact (hr.lt k hb).2
 ·rintro k ⟨l, hl, m, hm, rfl⟩
  obtain ⟨cur, a, _⟩ := h.seen l hl m hm
  exact lt_of_heap a
theorem LogAt.off {w : World} {K : Log} {known : List Nat} (h : LogAt w K known) {b : Nat} {cs : Array Value} {t : TypeId} {f : Nat × Nat} (hb : w.heap[b]? = some (.cells cs t f)) (h1 : t ≠ 67) (h2 : t ≠ 115) : ¬ K.Foot b := by
 rintro (rfl | ⟨v, hv, hk⟩)
 ·have := h.block
  rw [hb] at this
  simp at this
  exact h1 this.2.1
 ·obtain ⟨l, _, hr⟩ := h.at hv
  exact own_ne hr hb h2 hk
theorem LogAt.seenOff {w : World} {K : Log} {known : List Nat} (h : LogAt w K known) {b : Nat} {cs : Array Value} {t : TypeId} {f : Nat × Nat} (hb : w.heap[b]? = some (.cells cs t f)) (h1 : t ≠ 63) : ¬ K.Seen b := by
 rintro ⟨l, hl, m, hm, rfl⟩
 obtain ⟨cur, a, _⟩ := h.seen l hl m hm
 rw [hb] at a
 simp at a
 exact h1 a.2.1
theorem LogAt.one {w : World} {K : Log} {known : List Nat} (h : LogAt w K known) {p x : Nat} (hx : known[p]? = some x) : ∃ v l, K.vs[p]? = some v ∧ K.ms[p]? = some l ∧ l.length = x ∧ w.ownsRow 0 115 8 v x (opsCells l) ∧ w.cell? ⟨K.b, p, none⟩ = some v := by
 have hp : p < known.length := (List.getElem?_eq_some_iff.1 hx).1
 have hv : p < K.vs.length := by rw [h.lenV]; exact hp
 have hl : p < K.ms.length := by rw [h.lenM]; exact hp
 have e : K.ms[p].length = x := by
  have h1 := hx
  rw [h.count, List.getElem?_map, List.getElem?_eq_getElem hl] at h1
  simpa using h1
 refine ⟨_, _, List.getElem?_eq_getElem hv, List.getElem?_eq_getElem hl, e, ?_, ?_⟩
 ·rw [← e]; exact h.rows p _ _ (List.getElem?_eq_getElem hv) (List.getElem?_eq_getElem hl)
 ·rw [Lib.cell_of_heap h.block]; simp [hv]
def Log.put (K : Log) (p : Nat) (v : Value) (m : MOp) : Log := ⟨K.b, K.vs.set p v, K.ms.modify p (· ++ [m])⟩
theorem map_modify {α β : Type} (f : α → β) (g : α → α) (g' : β → β) (h : ∀ a, f (g a) = g' (f a)) (l : List α) (p : Nat) : (l.modify p g).map f = (l.map f).modify p g' := by
 apply List.ext_getElem?
 intro j
 rw [List.getElem?_map, List.getElem?_modify, List.getElem?_modify, List.getElem?_map]
 cases l[j]? with
 | none => simp
 | some a =>
  by_cases hj : p = j
  ·simp [hj, h]
  ·simp [hj]
theorem modify_set (l : List Nat) (p x : Nat) (h : l[p]? = some x) : l.modify p (· + 1) = l.set p (x + 1) := by
 apply List.ext_getElem?
 intro j
 rw [List.getElem?_modify, List.getElem?_set]
 by_cases hj : p = j
 ·subst hj
  obtain ⟨h1, h2⟩ := List.getElem?_eq_some_iff.1 h
  simp [h1, h2]
 ·simp [hj]
theorem LogAt.add {w w1 : World} {K : Log} {known : List Nat} (h : LogAt w K known) {p x : Nat} (hx : known[p]? = some x) {v v' : Value} {l : List MOp} (hv : K.vs[p]? = some v) (hl : K.ms[p]? = some l) (m : MOp) (hm : SeenAt w m)
  (hown : w1.ownsRow 0 115 8 v' (x + 1) (opsCells (l ++ [m]))) (hk : Kept (fun k => v.ownBlock = some k) w w1) (hN : ∀ k, v'.ownBlock = some k → v.ownBlock = some k ∨ w.heap.size ≤ k) :
  LogAt (w1.setCell ⟨K.b, p, none⟩ v') (K.put p v' m) (known.set p (x + 1)) ∧ Kept K.Foot w (w1.setCell ⟨K.b, p, none⟩ v') ∧ (∀ k, (K.put p v' m).Foot k → K.Foot k ∨ w.heap.size ≤ k) ∧ (∀ k, (K.put p v' m).Seen k → K.Seen k ∨ k = m.g) := by
 have hpv : p < K.vs.length := (List.getElem?_eq_some_iff.1 hv).1
 have hpl : p < K.ms.length := (List.getElem?_eq_some_iff.1 hl).1
 have hrow := h.rows p v l hv hl
 have hbv : v.ownBlock ≠ some K.b := own_ne hrow h.block (by decide)
 have hb1 := hk.heap h.block hbv
 have hbv' : v'.ownBlock ≠ some K.b := own_ne hown hb1 (by decide)
 have hlx : l.length = x := by
  have h1 := hx
  rw [h.count, List.getElem?_map, hl] at h1
  simpa using h1
 have K2 : Kept (fun k => k = K.b) w1 (w1.setCell ⟨K.b, p, none⟩ v') := Kept.setCell (S := fun k => k = K.b) (Kept.refl _ w1) (p := ⟨K.b, p, none⟩) (fun _ => rfl) _
 have KA : Kept (fun k => v.ownBlock = some k ∨ k = K.b) w (w1.setCell ⟨K.b, p, none⟩ v') := (hk.mono (fun _ _ h => Or.inl h)).trans K2 (fun _ _ h => Or.inr h)
 have hseen : ∀ q : MOp, SeenAt w q → SeenAt (w1.setCell ⟨K.b, p, none⟩ v') q := fun q hq => by
  obtain ⟨cur, a, b⟩ := hq
  refine SeenAt.keep ⟨cur, a, b⟩ KA ?_
  rintro (e | e)
  ·exact own_ne hrow a (by decide) e
  ·rw [e, h.block] at a; simp at a
 refine ⟨⟨?_, ?_, ?_, ?_, ?_, ?_⟩, KA.mono ?_, ?_, ?_⟩
 ·show (w1.setCell ⟨K.b, p, none⟩ v').heap[K.b]? = some (.cells (K.vs.set p v').toArray _ _)
  rw [heap_set_same hb1]; simp
 ·show (K.vs.set p v').length = _
  rw [List.length_set, List.length_set]; exact h.lenV
 ·show known.set p (x + 1) = (K.ms.modify p (· ++ [m])).map List.length
  rw [map_modify List.length (· ++ [m]) (· + 1) (fun a => by simp), ← h.count, modify_set _ _ _ hx]
 ·intro i u q hu hq
  have hu' : (K.vs.set p v')[i]? = some u := hu
  have hq' : (K.ms.modify p (· ++ [m]))[i]? = some q := hq
  rw [List.getElem?_set] at hu'
  rw [List.getElem?_modify] at hq'
  by_cases hi : p = i
  ·subst hi
   rw [if_pos rfl, if_pos hpv] at hu'
   cases hu'
   rw [hl] at hq'
   simp at hq'
   subst hq'
   have : (l ++ [m]).length = x + 1 := by simp [hlx]
   rw [this]
   exact ownsRow_kept hown K2 (fun b hb e => hbv' (by rw [hb, e]))
  ·rw [if_neg hi] at hu'
   simp [hi] at hq'
   refine ownsRow_kept (h.rows i u q hu' hq') KA ?_
   rintro b hb (e | e)
   ·exact hi (h.apart p i v u b hv hu' e hb)
   ·subst e; exact own_ne (h.rows i u q hu' hq') h.block (by decide) hb
 ·intro i j u z b hu hz hub hzb
  have hu' : (K.vs.set p v')[i]? = some u := hu
  have hz' : (K.vs.set p v')[j]? = some z := hz
  rw [List.getElem?_set] at hu' hz'
  have key : ∀ (i : Nat) (u : Value), p ≠ i → K.vs[i]? = some u → u.ownBlock = some b → v'.ownBlock = some b → False := fun i u hi hu hub hvb => by
   rcases hN b hvb with e | e
   ·exact hi (h.apart p i v u b hv hu e hub)
   ·have := h.lt.1 b (Or.inr ⟨u, List.mem_of_getElem? hu, hub⟩); omega
  by_cases hi : p = i
  ·subst hi
   rw [if_pos rfl, if_pos hpv] at hu'
   cases hu'
   by_cases hj : p = j
   ·exact hj
   ·rw [if_neg hj] at hz'
    exact (key j z hj hz' hzb hub).elim
  ·rw [if_neg hi] at hu'
   by_cases hj : p = j
   ·subst hj
    rw [if_pos rfl, if_pos hpv] at hz'
    cases hz'
    exact (key i u hi hu' hub hzb).elim
   ·rw [if_neg hj] at hz'
    exact h.apart i j u z b hu' hz' hub hzb
 ·intro q hq z hz
  have hq' : q ∈ K.ms.modify p (· ++ [m]) := hq
  obtain ⟨i, hi, rfl⟩ := List.getElem_of_mem hq'
  rw [List.getElem_modify] at hz
  have hi2 : i < K.ms.length := by simpa using hi
  split at hz
  ·rcases List.mem_append.1 hz with hz | hz
   ·exact hseen z (h.seen _ (List.getElem_mem hi2) z hz)
   ·rw [List.mem_singleton.1 hz]; exact hseen m hm
  ·exact hseen z (h.seen _ (List.getElem_mem hi2) z hz)
 ·rintro k _ (e | e)
  ·exact Or.inr ⟨v, List.mem_of_getElem? hv, e⟩
  ·exact Or.inl e
 ·rintro k (e | ⟨u, hu, hub⟩)
  ·exact Or.inl (Or.inl e)
  ·have hu' : u ∈ K.vs.set p v' := hu
   rcases List.mem_or_eq_of_mem_set hu' with hu' | rfl
   ·exact Or.inl (Or.inr ⟨u, hu', hub⟩)
   ·rcases hN k hub with e | e
    ·exact Or.inl (Or.inr ⟨v, List.mem_of_getElem? hv, e⟩)
    ·exact Or.inr e
 ·rintro k ⟨q, hq, z, hz, rfl⟩
  have hq' : q ∈ K.ms.modify p (· ++ [m]) := hq
  obtain ⟨i, hi, rfl⟩ := List.getElem_of_mem hq'
  rw [List.getElem_modify] at hz
  have hi2 : i < K.ms.length := by simpa using hi
  split at hz
  ·rcases List.mem_append.1 hz with hz | hz
   ·exact Or.inl ⟨_, List.getElem_mem hi2, z, hz, rfl⟩
   ·rw [List.mem_singleton.1 hz]; exact Or.inr rfl
  ·exact Or.inl ⟨_, List.getElem_mem hi2, z, hz, rfl⟩
set_option maxHeartbeats 400000 in
theorem hPeers_any (b o n c : Nat) (a : Option Addr) (w : World) (h0 : w.cell? ⟨b, o, none⟩ = some (.slice a n c)) :
  Calls Tryz.prog 28 #[.pointer (some ⟨b, o, none⟩)] w fun e' w' => e' = .returned (.int .i64 n) ∧ w' = w := by
 have hb := World.block_lt_of_cell? w _ h0
 go_enter Tryz.func28, Tryz.ntmps28
 go_wp2
 go_ret
 exact ⟨rfl, rfl⟩
set_option maxHeartbeats 400000 in
theorem hCount_any (b o n c kb p x cp : Nat) (a : Option Addr) (w : World) (h0 : w.cell? ⟨b, o, none⟩ = some (.slice (some ⟨kb, 0, none⟩) n c)) (h1 : w.cell? ⟨kb, p, none⟩ = some (.slice a x cp)) (hp : p < n) (hx : x < 4294967296) :
  Calls Tryz.prog 42 #[.pointer (some ⟨b, o, none⟩), .int .u8 p] w fun e' w' => e' = .returned (.int .u32 x) ∧ w' = w := by
 have hb := World.block_lt_of_cell? w _ h0
 have hk := World.block_lt_of_cell? w _ h1
 have hp2 : (p : Int) < (n : Int) := by omega
 go_enter Tryz.func42, Tryz.ntmps42
 go_wp2
 go_ret
 exact ⟨rfl, rfl⟩
theorem hCount_log (b o c p x : Nat) (K : Log) (known : List Nat) (w : World) (h0 : w.cell? ⟨b, o, none⟩ = some (.slice (some ⟨K.b, 0, none⟩) known.length c)) (h : LogAt w K known) (hx : known[p]? = some x) (hx2 : x < 4294967296) :
  Calls Tryz.prog 42 #[.pointer (some ⟨b, o, none⟩), .int .u8 p] w fun e' w' => e' = .returned (.int .u32 x) ∧ w' = w := by
 obtain ⟨v, l, hv, hl, hlx, hr, hc⟩ := h.one hx
 obtain ⟨a, cap, rfl, _, _⟩ := own_slice hr
 exact hCount_any b o known.length c K.b p x cap a w h0 hc (List.getElem?_eq_some_iff.1 hx).1 hx2
theorem u32s_filled (l : List Nat) (k : Nat) (n : Nat) (h : l[k]? = some n) : u32s (filled l (k + 1)) = (u32s (filled l k)).setIfInBounds k (.int .u32 n) := by
 rw [filled_succ l k n h]; simp [u32s, List.map_set]
set_option maxHeartbeats 400000 in
theorem hCounts_log (b o c : Nat) (K : Log) (known : List Nat) (w : World) (h0 : w.cell? ⟨b, o, none⟩ = some (.slice (some ⟨K.b, 0, none⟩) known.length c)) (h : LogAt w K known) (hn : known.length ≤ 8) (hf : ∀ n ∈ known, n < 4294967296) :
  Calls Tryz.prog 29 #[.pointer (some ⟨b, o, none⟩)] w fun e' w' => e' = .returned (.slice (some ⟨w.heap.size, 0, none⟩) known.length known.length) ∧ w'.heap[w.heap.size]? = some (.cells (u32s known) 63 (0, 0)) ∧ Kept (fun _ => False) w w' := by
 obtain ⟨i0, hi, hz0, hz1, hz2⟩ := info_parts info_u32
 have hmk : ∀ w : World, (Instr.makeSlice 80 (.int .i64 known.length) (.int .i64 known.length)).run Tryz.prog w = .ok (.slice (some ⟨w.heap.size, 0, none⟩) known.length known.length) (w.alloc (.cells (u32s (List.replicate known.length 0)) 63)) := fun w => by
  rw [run_make w 80 63 i0 (.int .u32 0) Tryz.underlying80 hi hz0 .i64 .i64 known.length known.length (by omega) (by omega) (by rw [hz2]; omega) (by omega), hz1, ← made_zeros]; rfl
 clear hi hz0 hz1 hz2
 have hb := World.block_lt_of_cell? w _ h0
 go_enter Tryz.func29, Tryz.ntmps29
 go_wp2
 go_loopw [13] (fun i wr => ∃ k : Nat, k ≤ known.length ∧ i = .int .i64 k ∧ wr.heap[w.heap.size]? = some (.cells (u32s (filled known k)) 63 (0, 0)) ∧ Kept (fun _ => False) w wr) (fun i _ => known.length - (intOf i).toNat)
 case atStart => exact ⟨0, Nat.zero_le _, rfl, by rw [filled_zero]; exact heap_alloc_new w _, (Kept.refl _ _).alloc _⟩
 case round =>
  obtain ⟨k, hk, rfl, hc, hkp⟩ := hrel
  by_cases hlt : k < known.length
  ·obtain ⟨n, hek⟩ : ∃ n, known[k]? = some n := ⟨_, List.getElem?_eq_getElem hlt⟩
   have hn2 := hf n (List.mem_of_getElem? hek)
   have HE : Hid (known[k]? = some n) := hek
   have HCC : Hid (wr.heap[w.heap.size]? = some (.cells (u32s (filled known k)) 63 (0, 0))) := hc
   clear hek hc
   go_wp2_with fail
   refine (hCount_log b o c k n K known _ (hkp.cell' h0 (fun h => h)) (h.quiet hkp) HE.out hn2).mono ?_
   rintro e1 w1 ⟨rfl, hw1⟩
   have hk1 : Kept (fun _ => False) wr w1 := by rw [hw1]; exact Kept.refl _ _
   clear hw1
   have hc1 := hk1.heap HCC.out (fun h => h)
   have gsz : w.heap.size < w1.heap.size := lt_of_heap hc1
   obtain ⟨v, g1⟩ : ∃ v, w1.cell? ⟨w.heap.size, k, none⟩ = some v := by
    rw [Lib.cell_of_heap hc1]; exact ⟨_, Array.getElem?_eq_getElem (by simp [u32s, filled_length known k hk]; exact hlt)⟩
   have g2 : w1.frozen? ⟨w.heap.size, k, none⟩ = false := Lib.frozen_of_heap hc1 k
   have HC : Hid ((w1.setCell ⟨w.heap.size, k, none⟩ (.int .u32 n)).heap[w.heap.size]? = some (.cells (u32s (filled known (k + 1))) 63 (0, 0))) := by
    rw [u32s_filled known k n HE.out]; exact heap_set_same hc1 k _
   have hkw := hkp.trans' hk1
   clear hc1
   go_wp2
   go_roundw
   case rel => exact ⟨k + 1, by omega, by go_num, HC.out, hkw.setCell (fun h => absurd h (Nat.lt_irrefl _)) _⟩
   case measure => simp [intOf]; omega
  ·have hke : k = known.length := by omega
   subst hke
   rw [filled_all] at hc
   go_wp2
   go_ret
   exact ⟨rfl, hc, hkp⟩
def canB (known : List Nat) (o : Ope) : Bool := Pr.can ⟨0, 0, known, [], [], []⟩ o
theorem canB_iff (known : List Nat) (o : Ope) : canB known o = true ↔ o.num = known.getD o.peer 0 + 1 ∧ ∀ j, j < known.length → o.seen.getD j 0 ≤ known.getD j 0 := can_iff _ o
set_option maxHeartbeats 1000000 in
set_option maxRecDepth 100000 in
theorem can_any (bp kc : Nat) (K : Log) (known : List Nat) (o : Ope) (g cap : Nat) (w : World) (hb : w.cell? ⟨bp, 2, none⟩ = some (.slice (some ⟨K.b, 0, none⟩) known.length kc)) (hk : LogAt w K known)
  (hkf : ∀ n ∈ known, n < 4294967296) (hR : RightOp known.length o) (hs : ∀ (i n : Nat), o.seen[i]? = some n → w.cell? ⟨g, i, none⟩ = some (.int .u32 (n : Int))) :
  Calls Tryz.prog 64 #[.pointer (some ⟨bp, 0, none⟩), .agg #[.int .u8 o.kind, .int .u8 o.peer, .int .u32 o.num, .int .u32 o.clock, .slice (some ⟨g, 0, none⟩) o.seen.length cap, .int .u32 o.nclock, .int .u8 o.npeer, .int .i32 o.char]] w fun e' w' =>
   e' = .returned (.bool (canB known o)) ∧ Kept (fun _ => False) w w' := by
 have hsl := hR.seen
 have hpl := hR.peer
 have hN := hR.group
 have hbw := World.block_lt_of_cell? w _ hb
 obtain ⟨sl, hsl2⟩ : ∃ sl, o.seen.length = sl := ⟨_, rfl⟩
 rw [hsl2] at hsl ⊢
 obtain ⟨kd, hkd⟩ : ∃ kd, o.kind = kd := ⟨_, rfl⟩
 rw [hkd]
 have hW : ∀ x : Obj, Kept (fun _ => False) w (w.alloc x) := fun x => (Kept.refl _ _).alloc x
 go_enter Tryz.func64, Tryz.ntmps64
 have hgw : g < w.heap.size := by
  obtain ⟨n, hn⟩ : ∃ n, o.seen[o.peer]? = some n := ⟨_, List.getElem?_eq_getElem (by omega)⟩
  exact World.block_lt_of_cell? w _ (hs _ n hn)
 go_wp2
 go_loop [10] (fun i => ∃ k : Nat, k ≤ known.length ∧ i = .int .i64 k ∧ Hid (∀ j, j < k → o.seen.getD j 0 ≤ known.getD j 0)) (fun i => known.length - (intOf i).toNat)
 case atStart => exact ⟨0, Nat.zero_le _, rfl, fun j hj => absurd hj (Nat.not_lt_zero _)⟩
 case round =>
  obtain ⟨k, hk1, rfl, hall⟩ := hrel
  by_cases hlt : k < known.length
  ·obtain ⟨a, ha⟩ : ∃ a, known[k]? = some a := ⟨_, List.getElem?_eq_getElem hlt⟩
   obtain ⟨b, hb2⟩ : ∃ b, o.seen[k]? = some b := ⟨_, List.getElem?_eq_getElem (by omega)⟩
   have c2 := hs k b hb2
   have hga : known.getD k 0 = a := by rw [List.getD_eq_getElem?_getD, ha]; rfl
   have hgb : o.seen.getD k 0 = b := by rw [List.getD_eq_getElem?_getD, hb2]; rfl
   have haf := hkf a (List.mem_of_getElem? ha)
   have hbf := hR.fits b (List.mem_of_getElem? hb2)
   have hct := fun x => hCount_log bp 2 kc k a K known (w.alloc x) ((hW _).cell' hb (fun h => h)) (hk.quiet (hW _)) ha haf
   by_cases hab : a < b
   ·have e1 : (a : Int) < (b : Int) := by omega
    have HC : Hid (canB known o = false) := by
     show canB known o = false
     cases hc : canB known o with
     | false => rfl
     | true => have := ((canB_iff known o).1 hc).2 k hlt; rw [hga, hgb] at this; omega
    clear ha hb2 hga hgb hk hs hR hkf hab
    go_wp2_with fail
    refine (hct _).mono ?_
    rintro e2 w2 ⟨rfl, rfl⟩
    go_wp2
    go_ret
    exact ⟨ret_bool HC.out.symm, (Kept.refl _ _).alloc _⟩
   ·have e1 : ¬ (a : Int) < (b : Int) := by omega
    have HA : Hid (∀ j, j < k + 1 → o.seen.getD j 0 ≤ known.getD j 0) := fun j hj => by
     by_cases h : j = k
     ·subst h; rw [hga, hgb]; omega
     ·exact hall.out j (by omega)
    clear ha hb2 hga hgb hk hs hR hkf hab
    go_wp2_with fail
    refine (hct _).mono ?_
    rintro e2 w2 ⟨rfl, rfl⟩
    go_wp2
    go_round
    case rel => exact ⟨k + 1, by omega, by go_num, HA⟩
    case measure => simp [intOf]; omega
  ·have hke : k = known.length := by omega
   obtain ⟨a, ha⟩ : ∃ a, known[o.peer]? = some a := ⟨_, List.getElem?_eq_getElem hpl⟩
   have haf := hkf a (List.mem_of_getElem? ha)
   have hga : known.getD o.peer 0 = a := by rw [List.getD_eq_getElem?_getD, ha]; rfl
   have hnum := hR.num
   have hct := fun W (hW : Kept (fun _ => False) w W) => hCount_log bp 2 kc o.peer a K known W (hW.cell' hb (fun h => h)) (hk.quiet hW) ha haf
   have hpl2 : (o.peer : Int) < (known.length : Int) := by omega
   obtain ⟨n, hn⟩ : ∃ n, o.num = n := ⟨_, rfl⟩
   have HC : Hid (canB known o = decide (n = a + 1)) := by
    show canB known o = decide (n = a + 1)
    rw [Bool.eq_iff_iff, canB_iff, decide_eq_true_iff, hga, hn]
    exact ⟨fun h => h.1, fun h => ⟨h, fun j hj => hall.out j (by omega)⟩⟩
   rw [hn] at hnum
   rw [hn]
   clear ha hga hk hs hR hkf hall
   go_wp2_with fail
   go_quiet (refine Calls.quiet_of_same (hct _ (((Kept.refl _ _).alloc _).drewN _)))
   go_wp2
   go_ret
   refine ⟨ret_bool ?_, ((Kept.refl _ _).alloc _).drewN _⟩
   rw [HC.out, Bool.eq_iff_iff]
   simp only [beq_iff_eq, decide_eq_true_iff]
   try rw [IntKind.wrap_u32]
   omega
def OpsAt (w : World) (g : Nat) (ms : List MOp) : Prop :=
 ∀ i m, ms[i]? = some m → w.cell? ⟨g, i * 8, none⟩ = some (.int .u8 m.o.kind) ∧ w.cell? ⟨g, i * 8 + 1, none⟩ = some (.int .u8 m.o.peer) ∧ w.cell? ⟨g, i * 8 + 2, none⟩ = some (.int .u32 m.o.num) ∧ w.cell? ⟨g, i * 8 + 3, none⟩ = some (.int .u32 m.o.clock) ∧
  w.cell? ⟨g, i * 8 + 4, none⟩ = some (.slice (some ⟨m.g, 0, none⟩) m.o.seen.length m.cap) ∧ w.cell? ⟨g, i * 8 + 5, none⟩ = some (.int .u32 m.o.nclock) ∧ w.cell? ⟨g, i * 8 + 6, none⟩ = some (.int .u8 m.o.npeer) ∧ w.cell? ⟨g, i * 8 + 7, none⟩ = some (.int .i32 m.o.char)
theorem OpsAt.kept {S : Nat → Prop} {w w' : World} {g : Nat} {ms : List MOp} (h : OpsAt w g ms) (k : Kept S w w') (hS : ¬ S g) : OpsAt w' g ms := fun i m hm => by
 obtain ⟨h0, h1, h2, h3, h4, h5, h6, h7⟩ := h i m hm
 exact ⟨k.cell' h0 hS, k.cell' h1 hS, k.cell' h2 hS, k.cell' h3 hS, k.cell' h4 hS, k.cell' h5 hS, k.cell' h6 hS, k.cell' h7 hS⟩
def OpsV (w : World) (v : Value) (ms : List MOp) : Prop := ∃ a cp, v = .slice a ms.length cp ∧ (ms ≠ [] → ∃ g, a = some ⟨g, 0, none⟩ ∧ OpsAt w g ms)
theorem opsV_of_own {w : World} {hv : Value} {ms : List MOp} (h : w.ownsRow 0 115 8 hv ms.length (opsCells ms)) : OpsV w hv ms := by
 rcases h.2 with ⟨rfl, h0⟩ | ⟨g, cap, cur, rfl, _, hg, _, _, _, htk⟩
 ·exact ⟨none, 0, by rw [h0], fun hne => absurd (List.length_eq_zero_iff.1 h0) hne⟩
 ·refine ⟨_, cap, rfl, fun _ => ⟨g, rfl, fun i e he => ?_⟩⟩
  have hil : i < ms.length := (List.getElem?_eq_some_iff.1 he).1
  have key : ∀ j, j < 8 → w.cell? ⟨g, i * 8 + j, none⟩ = e.cells[j]? := fun j hj => by
   rw [Lib.cell_of_heap hg, ← opsCells_at ms i e he j hj, ← htk, List.getElem?_take, if_pos (by omega), Array.getElem?_toList]
  exact ⟨key 0 (by omega), key 1 (by omega), key 2 (by omega), key 3 (by omega), key 4 (by omega), key 5 (by omega), key 6 (by omega), key 7 (by omega)⟩
end Go.Proofs.YtgfafbanahiigaaGreat
