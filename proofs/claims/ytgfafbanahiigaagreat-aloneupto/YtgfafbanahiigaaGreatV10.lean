import Derived.Test.YtgfafbanahiigaaGreatRK
import Derived.Test.YtgfafbanahiigaaGreatHE
import Derived.Test.YtgfafbanahiigaaGreatV9a
import Derived.Test.YtgfafbanahiigaaGreatRH
import Derived.Deep.RegionWith
import Derived.BigRegion
set_option linter.unusedVariables false
set_option linter.unusedSimpArgs false
namespace Go.Proofs.YtgfafbanahiigaaGreat
open Go.RowKit Go.Chorus
set_option maxHeartbeats 1000000 in
set_option maxRecDepth 100000 in
theorem hAdd_any (b o c g cap : Nat) (K : Log) (known : List Nat) (q : Ope) (w : World) (h0 : w.cell? ⟨b, o, none⟩ = some (.slice (some ⟨K.b, 0, none⟩) known.length c)) (cs : Array Value) (T : TypeId) (hbb : w.heap[b]? = some (.cells cs T (0, 0))) (hT : T ≠ 115) (h : LogAt w K known) (x : Nat) (hx : known[q.peer]? = some x) (hx2 : x < 4294967295) (hm : SeenAt w ⟨q, g, cap⟩) :
  Calls Tryz.prog 76 #[.pointer (some ⟨b, o, none⟩), .agg #[.int .u8 q.kind, .int .u8 q.peer, .int .u32 q.num, .int .u32 q.clock, .slice (some ⟨g, 0, none⟩) q.seen.length cap, .int .u32 q.nclock, .int .u8 q.npeer, .int .i32 q.char]] w fun e' w' =>
   e' = .returned (.tuple #[]) ∧ ∃ v', LogAt w' (K.put q.peer v' ⟨q, g, cap⟩) (known.set q.peer (x + 1)) ∧ Kept K.Foot w w' ∧ (∀ k, (K.put q.peer v' ⟨q, g, cap⟩).Foot k → K.Foot k ∨ w.heap.size ≤ k) ∧ (∀ k, (K.put q.peer v' ⟨q, g, cap⟩).Seen k → K.Seen k ∨ k = g) := by
 obtain ⟨v, l, hv_, hl, hlx, hr, hc⟩ := h.one hx
 have hb := World.block_lt_of_cell? w _ h0
 have hkb := lt_of_heap h.block
 have hpl : q.peer < known.length := (List.getElem?_eq_some_iff.1 hx).1
 have hpl2 : (q.peer : Int) < (known.length : Int) := by omega
 obtain ⟨a, cp, rfl, _, _⟩ := own_slice hr
 obtain ⟨ob, hob⟩ : ∃ ob : Obj, ob = .cells #[.int .u8 q.kind, .int .u8 q.peer, .int .u32 q.num, .int .u32 q.clock, .slice (some ⟨g, 0, none⟩) q.seen.length cap, .int .u32 q.nclock, .int .u8 q.npeer, .int .i32 q.char] 115 := ⟨_, rfl⟩
 have hW : Kept (fun _ => False) w (w.alloc ob) := (Kept.refl _ _).alloc _
 have hbox : (w.alloc ob).heap[w.heap.size]? = some (.cells #[.int .u8 q.kind, .int .u8 q.peer, .int .u32 q.num, .int .u32 q.clock, .slice (some ⟨g, 0, none⟩) q.seen.length cap, .int .u32 q.nclock, .int .u8 q.npeer, .int .i32 q.char] 115 (0, 0)) := by rw [hob]; exact heap_alloc_new w _
 have hSlt : ∀ k, (Value.slice a x cp).ownBlock = some k → k < w.heap.size := fun k hk => (hr.lt k hk).2
 have hSb : (Value.slice a x cp).ownBlock ≠ some b := own_ne hr hbb hT
 have hSk : (Value.slice a x cp).ownBlock ≠ some K.b := own_ne hr h.block (by decide)
 go_enter Tryz.func76, Tryz.ntmps76
 go_wp2
 rw [← hob]
 obtain ⟨W, hWe⟩ : ∃ W, W = w.alloc ob := ⟨_, rfl⟩
 rw [← hWe] at hbox hW ⊢
 have HK : ∀ W2, Kept (fun k => (Value.slice a x cp).ownBlock = some k) W.drew W2 → Kept (fun k => (Value.slice a x cp).ownBlock = some k) w W2 := fun W2 hk => ((hW.mono (fun _ _ h => h.elim)).drew).trans' hk
 refine wp_region_tailB (by kernel_rfl) 17 22 rfl (by kernel_rfl) (fun k => (Value.slice a x cp).ownBlock = some k) 16
  (fun i v w1 => match i with
   | 0 | 1 | 2 | 6 | 7 | 8 => v = .pointer (some ⟨b, o, none⟩)
   | 3 | 9 => v = .slice (some ⟨K.b, 0, none⟩) known.length c
   | 4 | 10 => v = .pointer (some ⟨w.heap.size, 1, none⟩)
   | 5 | 11 => v = .int .u8 q.peer
   | 12 => v = .pointer (some ⟨K.b, q.peer, none⟩)
   | 13 => v = .slice a x cp
   | 14 => v = .agg #[.int .u8 q.kind, .int .u8 q.peer, .int .u32 q.num, .int .u32 q.clock, .slice (some ⟨g, 0, none⟩) q.seen.length cap, .int .u32 q.nclock, .int .u8 q.npeer, .int .i32 q.char]
   | 15 => ∃ vb, v = .slice (some ⟨vb, 0, none⟩) 1 1 ∧ w1.heap[vb]? = some (.cells (⟨q, g, cap⟩ : MOp).cells.toArray 115 (0, 0)) ∧ w.heap.size ≤ vb
   | 16 => w1.ownsRow 0 115 8 v (x + 1) (opsCells (l ++ [⟨q, g, cap⟩])) ∧ (∀ k, v.ownBlock = some k → (Value.slice a x cp).ownBlock = some k ∨ w.heap.size ≤ k)
   | _ => True) ?_ ?_ ?_ ?_ ?_
 ·intro i v w1 w2 hv hk
  split at hv
  case h_16 =>
   obtain ⟨vb, h1, h2, h3⟩ := hv
   exact ⟨vb, h1, hk.heap h2 (fun h => h), h3⟩
  case h_17 => exact ⟨ownsRow_kept hv.1 hk (fun _ _ h => h), hv.2⟩
  all_goals exact hv
 ·intro i v w1 w2 hi hv hk
  split at hv
  case h_16 =>
   obtain ⟨vb, h1, h2, h3⟩ := hv
   exact ⟨vb, h1, hk.heap h2 (fun h => by have := hSlt vb h; omega), h3⟩
  case h_17 => exact absurd rfl hi
  all_goals exact hv
 ·intro i o' hi17 hi16 hi a' w1 hk up
  have hk' := HK w1 hk
  have cO := hk'.cell' h0 hSb
  have hO : b < w1.heap.size := Nat.lt_of_lt_of_le hb hk'.size
  have cK := hk'.cell' hc hSk
  have hKz : K.b < w1.heap.size := Nat.lt_of_lt_of_le hkb hk'.size
  have hbx : w1.heap[w.heap.size]? = _ := hk.heap (w := W.drew) hbox (fun h => by have := hSlt _ h; omega)
  have hZ : w.heap.size < w1.heap.size := lt_of_heap hbx
  have cB0 : w1.cell? ⟨w.heap.size, 0, none⟩ = some (.int .u8 q.kind) := by rw [Lib.cell_of_heap hbx]; rfl
  have cB1 : w1.cell? ⟨w.heap.size, 1, none⟩ = some (.int .u8 q.peer) := by rw [Lib.cell_of_heap hbx]; rfl
  have cB2 : w1.cell? ⟨w.heap.size, 2, none⟩ = some (.int .u32 q.num) := by rw [Lib.cell_of_heap hbx]; rfl
  have cB3 : w1.cell? ⟨w.heap.size, 3, none⟩ = some (.int .u32 q.clock) := by rw [Lib.cell_of_heap hbx]; rfl
  have cB4 : w1.cell? ⟨w.heap.size, 4, none⟩ = some (.slice (some ⟨g, 0, none⟩) q.seen.length cap) := by rw [Lib.cell_of_heap hbx]; rfl
  have cB5 : w1.cell? ⟨w.heap.size, 5, none⟩ = some (.int .u32 q.nclock) := by rw [Lib.cell_of_heap hbx]; rfl
  have cB6 : w1.cell? ⟨w.heap.size, 6, none⟩ = some (.int .u8 q.npeer) := by rw [Lib.cell_of_heap hbx]; rfl
  have cB7 : w1.cell? ⟨w.heap.size, 7, none⟩ = some (.int .i32 q.char) := by rw [Lib.cell_of_heap hbx]; rfl
  rcases i with _ | _ | _ | _ | _ | _ | _ | _ | _ | _ | _ | _ | _ | _ | _ | _ | i
  all_goals simp only [List.getElem?_cons_zero, List.getElem?_cons_succ, List.getElem?_nil, Option.some.injEq, reduceCtorEq] at hi
  all_goals try subst hi
  ·have h1 := up.old 0 (by intro j oj hj hd; exfalso; rcases j with _ | _ | _ | _ | _ | _ | _ | _ | _ | _ | _ | _ | _ | _ | _ | _ | _ | _ | _ | j <;> simp at hj <;> subst hj <;> simp at hd)
   simp at h1
   simp [Oper.wp, go_sem, Act.eval, h1]
   exact ⟨_, rfl, rfl, Kept.refl _ _⟩
  ·obtain ⟨_, s0, rfl⟩ := up.d 0 4 rfl rfl
   simp [Oper.wp, go_sem, Act.eval, s0]
   exact ⟨_, rfl, rfl, Kept.refl _ _⟩
  ·obtain ⟨_, s1, rfl⟩ := up.d 1 5 rfl rfl
   simp [Oper.wp, go_sem, Act.eval, s1]
   exact ⟨_, rfl, rfl, Kept.refl _ _⟩
  ·obtain ⟨_, s2, rfl⟩ := up.d 2 6 rfl rfl
   simp [Oper.wp, go_sem, Act.eval, s2, cO, hO]
   exact ⟨_, rfl, rfl, Kept.refl _ _⟩
  ·have h1 := up.old 3 (by intro j oj hj hd; exfalso; rcases j with _ | _ | _ | _ | _ | _ | _ | _ | _ | _ | _ | _ | _ | _ | _ | _ | _ | _ | _ | j <;> simp at hj <;> subst hj <;> simp at hd)
   simp at h1
   simp [Oper.wp, go_sem, Act.eval, h1]
   exact ⟨_, rfl, rfl, Kept.refl _ _⟩
  ·obtain ⟨_, s4, rfl⟩ := up.d 4 8 rfl rfl
   simp [Oper.wp, go_sem, Act.eval, s4, cB1, hZ]
   exact ⟨_, rfl, rfl, Kept.refl _ _⟩
  ·have h1 := up.old 0 (by intro j oj hj hd; exfalso; rcases j with _ | _ | _ | _ | _ | _ | _ | _ | _ | _ | _ | _ | _ | _ | _ | _ | _ | _ | _ | j <;> simp at hj <;> subst hj <;> simp at hd)
   simp at h1
   simp [Oper.wp, go_sem, Act.eval, h1]
   exact ⟨_, rfl, rfl, Kept.refl _ _⟩
  ·obtain ⟨_, s6, rfl⟩ := up.d 6 10 rfl rfl
   simp [Oper.wp, go_sem, Act.eval, s6]
   exact ⟨_, rfl, rfl, Kept.refl _ _⟩
  ·obtain ⟨_, s7, rfl⟩ := up.d 7 11 rfl rfl
   simp [Oper.wp, go_sem, Act.eval, s7]
   exact ⟨_, rfl, rfl, Kept.refl _ _⟩
  ·obtain ⟨_, s8, rfl⟩ := up.d 8 12 rfl rfl
   simp [Oper.wp, go_sem, Act.eval, s8, cO, hO]
   exact ⟨_, rfl, rfl, Kept.refl _ _⟩
  ·have h1 := up.old 3 (by intro j oj hj hd; exfalso; rcases j with _ | _ | _ | _ | _ | _ | _ | _ | _ | _ | _ | _ | _ | _ | _ | _ | _ | _ | _ | j <;> simp at hj <;> subst hj <;> simp at hd)
   simp at h1
   simp [Oper.wp, go_sem, Act.eval, h1]
   exact ⟨_, rfl, rfl, Kept.refl _ _⟩
  ·obtain ⟨_, s10, rfl⟩ := up.d 10 14 rfl rfl
   simp [Oper.wp, go_sem, Act.eval, s10, cB1, hZ]
   exact ⟨_, rfl, rfl, Kept.refl _ _⟩
  ·obtain ⟨_, s9, rfl⟩ := up.d 9 13 rfl rfl
   obtain ⟨_, s11, rfl⟩ := up.d 11 15 rfl rfl
   simp [Oper.wp, go_sem, Act.eval, s9, s11, hpl, hpl2]
   exact ⟨_, rfl, rfl, Kept.refl _ _⟩
  ·obtain ⟨_, s12, rfl⟩ := up.d 12 16 rfl rfl
   simp [Oper.wp, go_sem, Act.eval, s12, cK, hKz]
   exact ⟨_, rfl, rfl, Kept.refl _ _⟩
  ·have h1 := up.old 3 (by intro j oj hj hd; exfalso; rcases j with _ | _ | _ | _ | _ | _ | _ | _ | _ | _ | _ | _ | _ | _ | _ | _ | _ | _ | _ | j <;> simp at hj <;> subst hj <;> simp at hd)
   simp at h1
   simp [Oper.wp, go_sem, Act.eval, h1, cB0, cB1, cB2, cB3, cB4, cB5, cB6, cB7, hZ]
   exact ⟨_, rfl, rfl, Kept.refl _ _⟩
  ·obtain ⟨_, s14, rfl⟩ := up.d 14 18 rfl rfl
   simp [Oper.wp, go_sem, Act.eval, s14]
   exact ⟨_, rfl, ⟨_, rfl, heap_alloc_new w1 _, Nat.le_trans hW.size hk.size⟩, (Kept.refl _ _).alloc _⟩
  ·omega
 ·intro o' _ ho a' w1 hk up
  simp only [List.getElem?_cons_zero, List.getElem?_cons_succ, List.getElem?_nil, Option.some.injEq, reduceCtorEq] at ho
  subst ho
  obtain ⟨_, s13, rfl⟩ := up.d 13 17 rfl rfl
  obtain ⟨v15, s15, vb, hv15, hvb, hvz⟩ := up.dep ⟨15, .data⟩ (by simp) rfl _ 19 rfl rfl
  subst hv15
  have hk' : Kept (fun _ => False) w w1 := hW.drew.trans' hk
  obtain ⟨i0, hi, hz0, hz1, hz2⟩ := info_parts info_op
  have hsrc : Src Tryz.prog 8 67 (.slice (some ⟨vb, 0, none⟩) 1 1) 1 (opsCells [⟨q, g, cap⟩]) w1 := by
   refine Src.ofSlice w1 Tryz.underlying67 _ 1 1 _ rfl (fun j u hj => ?_) (ops_oneCell _)
   rw [Addr.add_lit, Nat.zero_add, Lib.cell_of_heap hvb]
   simpa [opsCells] using hj
  obtain ⟨v', w', hrun, hown', hkk, hnn⟩ := append_strong Tryz.prog w1 67 67 115 i0 _ 8 56 Tryz.underlying67 hi hz0 hz1 hz2 rfl (by decide) _ _ _ (ownsRow_kept hr hk' (fun _ _ h => h)) _ 1 _ hsrc (by decide) (by unfold maxLen; omega) (by omega)
  refine Lib.wp_append_run w1 _ _ _ _ rfl (.slice a x cp) (.slice (some ⟨vb, 0, none⟩) 1 1) (by simp [Act.eval, s13]) (by simp [Act.eval, s15]) v' w' (hrun _) ?_
  refine ⟨v', rfl, ⟨?_, fun k hk2 => ?_⟩, hkk⟩
  ·rw [opsCells_append]; exact hown'
  ·rcases hnn k hk2 with h1 | h1
   ·exact Or.inl h1
   ·exact Or.inr (Nat.le_trans hk'.size h1)
 ·intro vals w1 hk hv
  have h3 : vals 3 = _ := hv 3 (by decide)
  have h5 : vals 5 = _ := hv 5 (by decide)
  obtain ⟨h16, h16b⟩ := hv 16 (by decide)
  obtain ⟨v', hv'⟩ : ∃ v', vals 16 = v' := ⟨_, rfl⟩
  rw [hv'] at h16 h16b
  obtain ⟨a2, cp2, rfl, _, _⟩ := own_slice h16
  have hk' := HK w1 hk
  obtain ⟨A1, A2, A3, A4⟩ := h.add hx hv_ hl ⟨q, g, cap⟩ hm h16 hk' h16b
  have hKz : K.b < w1.heap.size := Nat.lt_of_lt_of_le hkb hk'.size
  have cK := hk'.cell' hc hSk
  have fK : w1.frozen? ⟨K.b, q.peer, none⟩ = false := by rw [hk'.frozen (p := ⟨K.b, q.peer, none⟩) hkb hSk]; exact Lib.frozen_of_heap h.block _
  have HA : Hid _ := And.intro A1 (And.intro A2 (And.intro A3 A4))
  clear A1 A2 A3 A4 hv h hbox hm hr
  simp only [List.take_succ_cons, List.take_zero, List.drop_succ_cons, List.drop_zero, putAll, h3, h5, hv']
  go_wp2
  go_end0
  exact ⟨rfl, _, HA.out⟩
set_option maxHeartbeats 1000000 in
set_option maxRecDepth 100000 in
theorem deliver_any (s : Pr) (o : Ope) (N : Nat) (bp : Nat) (bk : Log) (rv hv : Value) (g cap : Nat) (w : World) (h : PeerS w bp s bk rv hv) (hh : ∀ b, hv.ownBlock = some b → b < w.heap.size) (hm : SeenAt w ⟨o, g, cap⟩) (hf : Fit N s) (ho : RightOp N o) (hn : s.row.length ≤ 4294967295) (hx : s.k o.peer < 4294967295) :
  Calls Tryz.prog 58 #[.pointer (some ⟨bp, 0, none⟩), .agg #[.int .u8 o.kind, .int .u8 o.peer, .int .u32 o.num, .int .u32 o.clock, .slice (some ⟨g, 0, none⟩) o.seen.length cap, .int .u32 o.nclock, .int .u8 o.npeer, .int .i32 o.char]] w fun e' w' =>
   e' = .returned (.tuple #[]) ∧ ∃ bk' rv', PeerS w' bp (s.apply o) bk' rv' hv ∧ Kept (Foot bp bk rv) w w' ∧ (∀ k, Foot bp bk' rv' k → Foot bp bk rv k ∨ w.heap.size ≤ k) ∧ (∀ k, bk'.Seen k → bk.Seen k ∨ k = g) := by
 obtain ⟨c0, c1, c2, c3, c4⟩ := h.cells
 have hbw := lt_of_heap h.block
 have hcl := hf.clock
 have hoc := ho.clock
 have f0 : ∀ j, w.frozen? ⟨bp, j, none⟩ = false := Lib.frozen_of_heap h.block
 obtain ⟨W, hW⟩ : ∃ W, W = ((w.setCell ⟨bp, 1, none⟩ (.int .u32 (max (s.clock : Int) (o.clock : Int)))).alloc (.cells #[.int .u8 o.kind, .int .u8 o.peer, .int .u32 o.num, .int .u32 o.clock, .slice (some ⟨g, 0, none⟩) o.seen.length cap, .int .u32 o.nclock, .int .u8 o.npeer, .int .i32 o.char] 115)).drew := ⟨_, rfl⟩
 have HW : Hid (W = ((w.setCell ⟨bp, 1, none⟩ (.int .u32 (max (s.clock : Int) (o.clock : Int)))).alloc (.cells #[.int .u8 o.kind, .int .u8 o.peer, .int .u32 o.num, .int .u32 o.clock, .slice (some ⟨g, 0, none⟩) o.seen.length cap, .int .u32 o.nclock, .int .u8 o.npeer, .int .i32 o.char] 115)).drew) := hW
 have hK : Kept (fun k => k = bp) w W := by
  rw [hW]
  exact ((Kept.setCell (S := fun k => k = bp) (Kept.refl _ w) (p := ⟨bp, 1, none⟩) (fun _ => rfl) _).alloc _).drew
 have hbox : W.heap[w.heap.size]? = some (.cells #[.int .u8 o.kind, .int .u8 o.peer, .int .u32 o.num, .int .u32 o.clock, .slice (some ⟨g, 0, none⟩) o.seen.length cap, .int .u32 o.nclock, .int .u8 o.npeer, .int .i32 o.char] 115 (0, 0)) := by
  rw [hW]
  have hs : (w.setCell ⟨bp, 1, none⟩ (.int .u32 (max (s.clock : Int) (o.clock : Int)))).heap.size = w.heap.size := by simp [World.setCell]
  have := heap_alloc_new (w.setCell ⟨bp, 1, none⟩ (.int .u32 (max (s.clock : Int) (o.clock : Int)))) (.cells #[.int .u8 o.kind, .int .u8 o.peer, .int .u32 o.num, .int .u32 o.clock, .slice (some ⟨g, 0, none⟩) o.seen.length cap, .int .u32 o.nclock, .int .u8 o.npeer, .int .i32 o.char] 115)
  rw [hs] at this
  exact this
 have hP : PeerS W bp { s with clock := max s.clock o.clock } bk rv hv := by
  have hbpF : ∀ b, Foot bp bk rv b → b ≠ bp → ¬ b = bp := fun b _ h => h
  refine ⟨?_, h.log.keep hK ?_ ?_, ownsRow_kept h.row hK ?_, h.off, h.ops⟩
  ·rw [hW]
   show (World.alloc _ _).heap[bp]? = _
   rw [Below.heap_alloc _ _ _ (by simp [World.setCell]; exact hbw), heap_set_same h.block]
   have : max (s.clock : Int) (o.clock : Int) = ((max s.clock o.clock : Nat) : Int) := by omega
   rw [this]; rfl
  ·rintro b hb rfl
   exact h.log.off h.block (by decide) (by decide) hb
  ·rintro b hb rfl
   exact h.log.seenOff h.block (by decide) hb
  ·rintro b hb rfl
   exact own_ne h.row h.block (by decide) hb
 have hmW : SeenAt W ⟨o, g, cap⟩ := by
  obtain ⟨cur, a, b⟩ := hm
  refine SeenAt.keep ⟨cur, a, b⟩ hK ?_
  rintro e
  have e : g = bp := e
  rw [show (⟨o, g, cap⟩ : MOp).g = g from rfl, e, h.block] at a
  simp at a
 have HP : Hid (PeerS W bp { s with clock := max s.clock o.clock } bk rv hv ∧ Kept (fun k => k = bp) w W ∧ SeenAt W ⟨o, g, cap⟩ ∧ W.heap[w.heap.size]? = some (.cells #[.int .u8 o.kind, .int .u8 o.peer, .int .u32 o.num, .int .u32 o.clock, .slice (some ⟨g, 0, none⟩) o.seen.length cap, .int .u32 o.nclock, .int .u8 o.npeer, .int .i32 o.char] 115 (0, 0))) := ⟨hP, hK, hmW, hbox⟩
 clear hW hK hbox hP hmW
 go_enter Tryz.func58, Tryz.ntmps58
 go_wp2
 go_region
 go_wp2
 rw [← HW.out]
 clear HW c0 c1 c2 c3 c4 f0
 obtain ⟨hP, hK, hmW, hbox⟩ := HP.out
 obtain ⟨d0, d1, d2, d3, d4⟩ := hP.cells
 have hbW := lt_of_heap hP.block
 have x0 : W.cell? ⟨w.heap.size, 0, none⟩ = some (.int .u8 o.kind) := by rw [Lib.cell_of_heap hbox]; rfl
 have x1 : W.cell? ⟨w.heap.size, 1, none⟩ = some (.int .u8 o.peer) := by rw [Lib.cell_of_heap hbox]; rfl
 have x2 : W.cell? ⟨w.heap.size, 2, none⟩ = some (.int .u32 o.num) := by rw [Lib.cell_of_heap hbox]; rfl
 have x3 : W.cell? ⟨w.heap.size, 3, none⟩ = some (.int .u32 o.clock) := by rw [Lib.cell_of_heap hbox]; rfl
 have x4 : W.cell? ⟨w.heap.size, 4, none⟩ = some (.slice (some ⟨g, 0, none⟩) o.seen.length cap) := by rw [Lib.cell_of_heap hbox]; rfl
 have x5 : W.cell? ⟨w.heap.size, 5, none⟩ = some (.int .u32 o.nclock) := by rw [Lib.cell_of_heap hbox]; rfl
 have x6 : W.cell? ⟨w.heap.size, 6, none⟩ = some (.int .u8 o.npeer) := by rw [Lib.cell_of_heap hbox]; rfl
 have x7 : W.cell? ⟨w.heap.size, 7, none⟩ = some (.int .i32 o.char) := by rw [Lib.cell_of_heap hbox]; rfl
 have xz := lt_of_heap hbox
 have hpl : o.peer < s.known.length := by rw [hf.len]; exact ho.peer
 have hxe : s.known[o.peer]? = some (s.k o.peer) := by
  unfold Pr.k; rw [List.getD_eq_getElem?_getD, List.getElem?_eq_getElem hpl]; rfl
 have hadd : ∀ W', Kept (fun _ => False) W W' → Calls Tryz.prog 76 #[.pointer (some ⟨bp, 2, none⟩), .agg #[.int .u8 o.kind, .int .u8 o.peer, .int .u32 o.num, .int .u32 o.clock, .slice (some ⟨g, 0, none⟩) o.seen.length cap, .int .u32 o.nclock, .int .u8 o.npeer, .int .i32 o.char]] W' fun e' w' =>
   e' = .returned (.tuple #[]) ∧ Hid (∃ bk', PeerS w' bp { s with clock := max s.clock o.clock, known := s.known.set o.peer (s.k o.peer + 1), log := s.log.modify o.peer (· ++ [o]) } bk' rv hv ∧ Kept (Foot bp bk rv) w w' ∧ (∀ k, bk'.Foot k → bk.Foot k ∨ w.heap.size ≤ k) ∧ (∀ k, bk'.Seen k → bk.Seen k ∨ k = g) ∧
    w'.heap[w.heap.size]? = some (.cells #[.int .u8 o.kind, .int .u8 o.peer, .int .u32 o.num, .int .u32 o.clock, .slice (some ⟨g, 0, none⟩) o.seen.length cap, .int .u32 o.nclock, .int .u8 o.npeer, .int .i32 o.char] 115 (0, 0))) := fun W' hW' => by
  have hP' := hP.quiet hW'
  have hm' := hmW.keep hW' (fun h => h)
  refine (hAdd_any bp 2 s.known.length g cap bk s.known o W' (hP'.cells).2.2.1 _ _ hP'.block (by decide) hP'.log (s.k o.peer) hxe hx hm').mono ?_
  rintro e' w' ⟨rfl, v', L1, L2, L3, L4⟩
  have hsz : w.heap.size ≤ W'.heap.size := Nat.le_trans hK.size hW'.size
  have hK' : Kept (fun k => k = bp) w W' := hK.trans hW' (fun _ _ h => h.elim)
  refine ⟨rfl, bk.put o.peer v' ⟨o, g, cap⟩, ⟨?_, L1, ?_, ?_, ?_⟩, ?_, ?_, L4, ?_⟩
  ·have := L2.heap hP'.block (hP'.log.off hP'.block (by decide) (by decide))
   rw [this]
   simp [Log.put]
  ·refine ownsRow_kept hP'.row L2 (fun b hb hF => ?_)
   rcases hF with rfl | ⟨u, hu, hub⟩
   ·exact own_ne hP'.row hP'.log.block (by decide) hb
   ·obtain ⟨l, _, hr⟩ := hP'.log.at hu
    rcases hP'.row.2 with ⟨e, _⟩ | ⟨g2, cap2, cur2, e, _, hg2, _⟩
    ·rw [e] at hb; simp [Value.ownBlock] at hb
    ·rw [e] at hb; simp [Value.ownBlock] at hb; subst hb
     exact own_ne hr hg2 (by decide) hub
  ·intro v hv' b hb hbh
   have hF : (bk.put o.peer v' ⟨o, g, cap⟩).Foot b := Or.inr ⟨v, hv', hb⟩
   have hv2 : v ∈ bk.vs.set o.peer v' := hv'
   rcases List.mem_or_eq_of_mem_set hv2 with hv2 | rfl
   ·exact hP'.off v hv2 b hb hbh
   ·rcases L3 b hF with hF2 | hF2
    ·rcases hF2 with rfl | ⟨u, hu, hub⟩
     ·have hKb := L1.block
      exact own_ne (L1.rows o.peer _ _ (by show (bk.vs.set o.peer _)[o.peer]? = _; rw [List.getElem?_set, if_pos rfl, if_pos (by rw [hP'.log.lenV]; exact hpl)]) (List.getElem?_eq_getElem (by show o.peer < (bk.ms.modify _ _).length; rw [List.length_modify, hP'.log.lenM]; exact hpl))) hKb (by decide) hb
     ·exact hP'.off u hu b hub hbh
    ·have := hh b hbh; omega
  ·show (bk.ms.modify o.peer (· ++ [⟨o, g, cap⟩])).map (List.map MOp.o) = _
   rw [map_modify (List.map MOp.o) (· ++ [(⟨o, g, cap⟩ : MOp)]) (· ++ [o]) (fun a => by simp), h.ops]
  ·exact (hK'.mono (S' := Foot bp bk rv) (fun k _ h => Or.inl h)).trans L2 (fun k _ h => Or.inr (Or.inl h))
  ·intro k hk
   rcases L3 k hk with h1 | h1
   ·exact Or.inl h1
   ·exact Or.inr (Nat.le_trans hsz h1)
  ·refine L2.heap (hW'.heap hbox (fun h => h)) (fun hF => ?_)
   have := (h.log.lt).1 _ hF; omega
 clear hP hbox hmW hK
 go_cut [18] (fun v w' => Hid (∃ bk', PeerS w' bp { s with clock := max s.clock o.clock, known := s.known.set o.peer (s.k o.peer + 1), log := s.log.modify o.peer (· ++ [o]) } bk' rv hv ∧ Kept (Foot bp bk rv) w w' ∧ (∀ k, bk'.Foot k → bk.Foot k ∨ w.heap.size ≤ k) ∧ (∀ k, bk'.Seen k → bk.Seen k ∨ k = g) ∧
    w'.heap[w.heap.size]? = some (.cells #[.int .u8 o.kind, .int .u8 o.peer, .int .u32 o.num, .int .u32 o.clock, .slice (some ⟨g, 0, none⟩) o.seen.length cap, .int .u32 o.nclock, .int .u8 o.npeer, .int .i32 o.char] 115 (0, 0))))
 case first =>
  go_region_with (go_at_call 76; refine (hadd _ ((Kept.refl _ W).drewN _)).mono ?_; rintro e4 w4 ⟨rfl, hfin⟩)
  all_goals
   go_wp2_with fail
   go_meet
   exact hfin
 case rest =>
  clear hadd x0 x1 x2 x3 x4 x5 x6 x7 d0 d1 d2 d3 d4
  obtain ⟨bk', P1, K1, F1, S1, hbox⟩ := hcut.out
  have x0 : wc.cell? ⟨w.heap.size, 0, none⟩ = some (.int .u8 o.kind) := by rw [Lib.cell_of_heap hbox]; rfl
  have x1 : wc.cell? ⟨w.heap.size, 1, none⟩ = some (.int .u8 o.peer) := by rw [Lib.cell_of_heap hbox]; rfl
  have x2 : wc.cell? ⟨w.heap.size, 2, none⟩ = some (.int .u32 o.num) := by rw [Lib.cell_of_heap hbox]; rfl
  have x3 : wc.cell? ⟨w.heap.size, 3, none⟩ = some (.int .u32 o.clock) := by rw [Lib.cell_of_heap hbox]; rfl
  have x4 : wc.cell? ⟨w.heap.size, 4, none⟩ = some (.slice (some ⟨g, 0, none⟩) o.seen.length cap) := by rw [Lib.cell_of_heap hbox]; rfl
  have x5 : wc.cell? ⟨w.heap.size, 5, none⟩ = some (.int .u32 o.nclock) := by rw [Lib.cell_of_heap hbox]; rfl
  have x6 : wc.cell? ⟨w.heap.size, 6, none⟩ = some (.int .u8 o.npeer) := by rw [Lib.cell_of_heap hbox]; rfl
  have x7 : wc.cell? ⟨w.heap.size, 7, none⟩ = some (.int .i32 o.char) := by rw [Lib.cell_of_heap hbox]; rfl
  have xz := lt_of_heap hbox
  have hbc := lt_of_heap P1.block
  have hrow : ∀ (w' : World) (rv' : Value) (es : List El) (Sr : Nat → Prop), Kept Sr wc w' → (∀ k, Sr k → k = bp ∨ rv.ownBlock = some k) → w'.ownsRow 0 102 4 rv' es.length (rowCells es) → (∀ k, rv'.ownBlock = some k → rv.ownBlock = some k ∨ wc.heap.size ≤ k) → w'.heap[bp]? = some (.cells #[.int .u8 s.me, .int .u32 (max s.clock o.clock : Nat), .slice (some ⟨bk'.b, 0, none⟩) (s.known.set o.peer (s.k o.peer + 1)).length (s.known.set o.peer (s.k o.peer + 1)).length, rv', hv] 69 (0, 0)) → (if o.ins then insertEl s.row o.clock o.peer o.nclock o.npeer o.char else killEl s.row o.nclock o.npeer) = es →
    ∃ bk' rv', PeerS w' bp (s.apply o) bk' rv' hv ∧ Kept (Foot bp bk rv) w w' ∧ (∀ k, Foot bp bk' rv' k → Foot bp bk rv k ∨ w.heap.size ≤ k) ∧ (∀ k, bk'.Seen k → bk.Seen k ∨ k = g) := by
   intro w' rv' es Sr k1 k2 k3 k4 k5 k6
   refine ⟨bk', rv', ⟨k5, P1.log.keep k1 ?_ ?_, ?_, P1.off, P1.ops⟩, K1.trans k1 ?_, ?_, S1⟩
   ·intro b hb hs
    rcases k2 b hs with e | e
    ·subst e; exact P1.log.off P1.block (by decide) (by decide) hb
    ·rcases hb with rfl | ⟨u, hu, hub⟩
     ·exact own_ne P1.row P1.log.block (by decide) e
     ·obtain ⟨l, _, hr⟩ := P1.log.at hu
      rcases P1.row.2 with ⟨e2, _⟩ | ⟨g2, cap2, cur2, e2, _, hg2, _⟩
      ·rw [e2] at e; simp [Value.ownBlock] at e
      ·rw [e2] at e; simp [Value.ownBlock] at e; subst e
       exact own_ne hr hg2 (by decide) hub
   ·rintro b ⟨l, hl, m, hm2, rfl⟩ hs
    obtain ⟨cur, a, _⟩ := P1.log.seen l hl m hm2
    rcases k2 _ hs with e | e
    ·rw [e, P1.block] at a; simp at a
    ·exact own_ne P1.row a (by decide) e
   ·show w'.ownsRow 0 102 4 rv' (if o.ins then _ else _ : List El).length (rowCells (if o.ins then _ else _))
    rw [k6]; exact k3
   ·intro k _ hs
    rcases k2 k hs with e | e
    ·exact Or.inl e
    ·exact Or.inr (Or.inr e)
   ·rintro k (e | e | e)
    ·exact Or.inl (Or.inl e)
    ·rcases F1 k e with e | e
     ·exact Or.inl (Or.inr (Or.inl e))
     ·exact Or.inr e
    ·rcases k4 k e with e | e
     ·exact Or.inl (Or.inr (Or.inr e))
     ·exact Or.inr (Nat.le_trans K1.size e)
  cases hi : o.ins with
  | false =>
   have hkd : ((o.kind : Nat) : Int) = 2 := by unfold Ope.kind; rw [hi]; rfl
   have hkill : ∀ W' : World, Kept (fun _ => False) wc W' → Calls Tryz.prog 79 #[.pointer (some ⟨bp, 3, none⟩), .agg #[.int .u32 o.nclock, .int .u8 o.npeer]] W' fun e' w' => e' = .returned (.tuple #[]) ∧
     Hid (∃ bk' rv', PeerS w' bp (s.apply o) bk' rv' hv ∧ Kept (Foot bp bk rv) w w' ∧ (∀ k, Foot bp bk' rv' k → Foot bp bk rv k ∨ w.heap.size ≤ k) ∧ (∀ k, bk'.Seen k → bk.Seen k ∨ k = g)) := fun W' hW' => by
    have hB := hW'.heap P1.block (fun h => h)
    have hR := ownsRow_kept P1.row hW' (fun _ _ h => h)
    refine (kill_any s.row o.nclock o.npeer bp 3 69 rv W' _ hB (by decide) rfl hR (by omega)).mono ?_
    rintro e' w' ⟨rfl, y1, y3⟩
    refine ⟨rfl, hrow w' rv (killEl s.row o.nclock o.npeer) (fun k => rv.ownBlock = some k) ((hW'.mono (fun _ _ h => h.elim)).trans' y3) (fun k h => Or.inr h) ?_ (fun k h => Or.inl h) (y3.heap hB (fun e => own_ne hR hB (by decide) e)) (by rw [hi]; rfl)⟩
    rw [killEl_length]; exact y1
   clear hrow P1 K1 F1 S1 hbox
   rw [hkd] at x0
   go_wp2
   go_region_with (go_at_call 79; refine (hkill _ ((Kept.refl _ wc).drewN _)).mono ?_; rintro e4 w4 ⟨rfl, hfin⟩)
   all_goals
    go_wp2
    go_end0
    exact ⟨rfl, hfin.out⟩
  | true =>
   have hkd : ((o.kind : Nat) : Int) = 1 := by unfold Ope.kind; rw [hi]; rfl
   have hins : ∀ W' : World, Kept (fun _ => False) wc W' → Calls Tryz.prog 77 #[.pointer (some ⟨bp, 3, none⟩), .agg #[.int .u32 o.clock, .int .u8 o.peer], .agg #[.int .u32 o.nclock, .int .u8 o.npeer], .int .i32 o.char] W' fun e' w' => e' = .returned (.tuple #[]) ∧
     Hid (∃ bk' rv', PeerS w' bp (s.apply o) bk' rv' hv ∧ Kept (Foot bp bk rv) w w' ∧ (∀ k, Foot bp bk' rv' k → Foot bp bk rv k ∨ w.heap.size ≤ k) ∧ (∀ k, bk'.Seen k → bk.Seen k ∨ k = g)) := fun W' hW' => by
    have hB := hW'.heap P1.block (fun h => h)
    have hR := ownsRow_kept P1.row hW' (fun _ _ h => h)
    by_cases h12 : 0 ≤ findFrom o.clock o.peer s.row 0 ∨ placeOk o.nclock o.npeer s.row = false
    ·refine (rowInsert_no s.row o.clock o.peer o.nclock o.npeer o.char bp 3 69 rv W' _ hB rfl hR (by omega) h12).mono ?_
     rintro e' w' ⟨rfl, y3⟩
     refine ⟨rfl, hrow w' rv s.row (fun _ => False) (hW'.trans' y3) (fun k h => h.elim) (ownsRow_kept hR y3 (fun _ _ h => h)) (fun k h => Or.inl h) (y3.heap hB (fun h => h)) ?_⟩
     rw [hi, if_pos rfl]; unfold insertEl; rw [if_pos h12]
    ·have h2 : placeOk o.nclock o.npeer s.row = true := by cases hp : placeOk o.nclock o.npeer s.row with | true => rfl | false => exact absurd (Or.inr hp) h12
     refine (rowInsert_ins s.row o.clock o.peer o.nclock o.npeer o.char bp 3 69 rv W' _ hB (by decide) rfl hR hn (fun hh => h12 (Or.inl hh)) h2 _ rfl).mono ?_
     rintro e' w' ⟨rfl, rv', y1, y2, y3, y4⟩
     refine ⟨rfl, hrow w' rv' _ (fun k => k = bp ∨ rv.ownBlock = some k) ((hW'.mono (fun _ _ h => h.elim)).trans' y3) (fun k h => h) ?_ (fun k hk => ?_) y2 rfl⟩
     ·rw [hi, if_pos rfl]
      unfold insertEl
      rw [if_neg h12]
      have hl : ∀ k, (s.row.take k ++ (⟨o.clock, o.peer, o.char, false⟩ : El) :: s.row.drop k).length = s.row.length + 1 := fun k => by simp; omega
      show w'.ownsRow 0 102 4 rv' (_ ++ _ :: _ : List El).length _
      rw [hl]; exact y1
     ·rcases y4 k hk with e | e
      ·exact Or.inl e
      ·exact Or.inr (Nat.le_trans hW'.size e)
   clear hrow P1 K1 F1 S1 hbox
   rw [hkd] at x0
   go_wp2
   go_region_with (first
    | (go_at_call 78; refine (opName_any 1 o.peer o.num o.clock (.slice (some ⟨g, 0, none⟩) o.seen.length cap) o.nclock o.npeer o.char _).mono ?_; rintro e3 w3 ⟨rfl, hk3⟩; have z5 := hk3.cell' x5 (fun h => h); have z6 := hk3.cell' x6 (fun h => h); have z7 := hk3.cell' x7 (fun h => h))
    | (go_at_call 77; refine (hins _ ((Kept.refl _ wc).drew.trans' hk3)).mono ?_; rintro e4 w4 ⟨rfl, hfin⟩))
   all_goals
    go_wp2
    go_end0
    exact ⟨rfl, hfin.out⟩
end Go.Proofs.YtgfafbanahiigaaGreat
