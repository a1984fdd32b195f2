import Derived.Test.YtgfafbanahiigaaGreatLK
import Derived.Test.YtgfafbanahiigaaGreatNK
import Derived.Test.YtgfafbanahiigaaGreatRK
set_option linter.unusedVariables false
set_option linter.unusedSimpArgs false
namespace Go.Proofs.YtgfafbanahiigaaGreat
open Go.RowKit Go.Chorus
theorem WSt.turn2 {M M' B0 : Nat} {w w1 w2 : World} {bw : Nat} {S : WS} (h : WSt M B0 w bw S) (hB : B0 ≤ w.heap.size) (hM : M ≤ M') {i : Nat} {p : PP} (hi : S.ps[i]? = some p) {s' : Pr} {t' : RSt} (T : Turn p.bx p.F w w1 s') (R : RTurn p.by_ p.G w1 w2 t') (two : Two p.N M' s' t') :
  ∃ F' G', WSt M' B0 w2 bw { S with ps := S.ps.set i ⟨p.bx, p.by_, p.N, s', t', F', G'⟩ } ∧ Kept (fun b => B0 ≤ b) w w2 ∧ Kept (fun b => p.F b ∨ p.G b) w w2 ∧ (∀ b, F' b ∨ G' b → (p.F b ∨ p.G b) ∨ w.heap.size ≤ b) := by
 obtain ⟨F', X, K1, N1⟩ := T
 obtain ⟨G', Y, K2, N2⟩ := R
 have hpm := List.mem_of_getElem? hi
 have hA := h.peers p hpm
 have K : Kept (fun b => p.F b ∨ p.G b) w w2 := (K1.mono (fun _ _ h => Or.inl h)).trans K2 (fun _ _ h => Or.inr h)
 have hlt : ∀ q ∈ S.ps, ∀ b, q.F b ∨ q.G b → b < w.heap.size := fun q hq b hb => by
  rcases hb with hb | hb
  ·exact (h.peers q hq).x.lt b hb
  ·exact (h.peers q hq).y.2 b hb
 have hF'lt := X.lt
 have hnew : ∀ b, F' b ∨ G' b → (p.F b ∨ p.G b) ∨ w.heap.size ≤ b := fun b hb => by
  rcases hb with hb | hb
  ·rcases N1 b hb with h1 | h1
   ·exact Or.inl (Or.inl h1)
   ·exact Or.inr h1
  ·rcases N2 b hb with h1 | h1
   ·exact Or.inl (Or.inr h1)
   ·exact Or.inr (Nat.le_trans K1.size h1)
 have hofF : ∀ b, F' b → ¬ p.G b := fun b hb hg => by
  rcases N1 b hb with h1 | h1
  ·exact hA.off b h1 hg
  ·have := hA.y.2 b hg; omega
 have hoff : ∀ b, F' b → ¬ G' b := fun b hb hg => by
  rcases N2 b hg with h1 | h1
  ·exact hofF b hb h1
  ·have := hF'lt b hb; omega
 have hil := (List.getElem?_eq_some_iff.1 hi).1
 have hother : ∀ (j : Nat) (q : PP), S.ps[j]? = some q → j ≠ i → ∀ b, q.F b ∨ q.G b → ¬ (F' b ∨ G' b) := fun j q hj hji b hb hf => by
  rcases hnew b hf with h1 | h1
  ·exact h.apart j i q p hj hi hji b hb h1
  ·have := hlt q (List.mem_of_getElem? hj) b hb; omega
 refine ⟨F', G', ⟨?_, ?_, ?_, ?_, ?_, ?_, ?_, ?_, h.packs, h.m1pos⟩, K.mono (fun b _ hb => h.new b (Or.inr ⟨p, hpm, hb⟩)), K, hnew⟩
 ·have hc := h.core.keep K (fun b hb hpb => h.offO p hpm b hb hpb)
  refine ⟨hc.block, fun j hj => ?_, hc.apart⟩
  have := hc.rows j hj
  rcases j with _ | _ | _ | _ | _ | j
  ·show w2.ownsRow 0 _ _ _ (S.ps.set i _).length (ppCells (S.ps.set i _))
   rw [List.length_set, ppCells_set S.ps i p ⟨p.bx, p.by_, p.N, s', t', F', G'⟩ hi rfl rfl]
   exact this
  ·exact this
  ·exact this
  ·exact this
  ·exact this
  ·exact this
 ·intro q hq
  obtain ⟨j, hj⟩ := List.getElem?_of_mem hq
  have hj : (S.ps.set i ⟨p.bx, p.by_, p.N, s', t', F', G'⟩)[j]? = some q := hj
  rw [List.getElem?_set] at hj
  by_cases hij : i = j
  ·rw [if_pos hij, if_pos hil] at hj
   cases hj
   exact ⟨X.keep K2 (fun b hb hg => hofF b hb hg), Y, two, hoff⟩
  ·rw [if_neg hij] at hj
   exact ((h.peers q (List.mem_of_getElem? hj)).keep K (fun b hb hpb => h.apart j i q p hj hi (fun e => hij e.symm) b hb hpb)).more hM
 ·intro j k q r hj hk hjk b hb
  have hj : (S.ps.set i ⟨p.bx, p.by_, p.N, s', t', F', G'⟩)[j]? = some q := hj
  have hk : (S.ps.set i ⟨p.bx, p.by_, p.N, s', t', F', G'⟩)[k]? = some r := hk
  rw [List.getElem?_set] at hj hk
  by_cases hij : i = j
  ·rw [if_pos hij, if_pos hil] at hj
   cases hj
   rw [if_neg (fun e => hjk (hij.symm.trans e))] at hk
   exact fun hr => hother k r hk (fun e => hjk (hij.symm.trans e.symm)) b hr hb
  ·rw [if_neg hij] at hj
   by_cases hik : i = k
   ·rw [if_pos hik, if_pos hil] at hk
    cases hk
    exact hother j q hj (fun e => hij e.symm) b hb
   ·rw [if_neg hik] at hk
    exact h.apart j k q r hj hk hjk b hb
 ·intro j v m h1 h2
  refine (h.nums j v m h1 h2).keep K (fun b hb hpb => ?_)
  exact (h.offL b ⟨v, Or.inl (List.mem_of_getElem? h1), hb⟩).2.2 p hpm hpb
 ·intro j v m h1 h2
  refine (h.txts j v m h1 h2).keep K (fun b hb hpb => ?_)
  exact (h.offL b ⟨v, Or.inr (List.mem_of_getElem? h1), hb⟩).2.2 p hpm hpb
 ·intro q hq b hb hqb
  rcases List.mem_or_eq_of_mem_set hq with hq | rfl
  ·exact h.offO q hq b hb hqb
  ·rcases hnew b hqb with h1 | h1
   ·exact h.offO p hpm b hb h1
   ·have := h.core.lt b hb; omega
 ·intro b hb
  obtain ⟨h1, h2, h3⟩ := h.offL b hb
  refine ⟨Nat.lt_of_lt_of_le h1 K.size, h2, fun q hq hqb => ?_⟩
  rcases List.mem_or_eq_of_mem_set hq with hq | rfl
  ·exact h3 q hq hqb
  ·rcases hnew b hqb with h4 | h4
   ·exact h3 p hpm h4
   ·omega
 ·rintro b (hb | ⟨q, hq, hqb⟩)
  ·exact h.new b (Or.inl hb)
  ·rcases List.mem_or_eq_of_mem_set hq with hq | rfl
   ·exact h.new b (Or.inr ⟨q, hq, hqb⟩)
   ·rcases hnew b hqb with h4 | h4
    ·exact h.new b (Or.inr ⟨p, hpm, h4⟩)
    ·omega
theorem append_none0 (P : Program) (w : World) (t tx ty e : TypeId) (i : TypeInfo) (ht : P.underlying t = some (.slice e)) (hi : P.info? e = some i) (x : Value) (hs : Src P i.size tx x 0 [] w) :
  (Builtin.append_ #[t, tx] ty #[.slice none 0 0, x]).run P w = .ok (.slice none 0 0) w := by
 rcases hs.kind with ⟨e', hk⟩ | hk <;> simp [Builtin.append_, run_underlying ht, run_underlying hk, sizeOf, typeInfo, hi, hs.len, hs.cells]
theorem append_texts (w : World) (a : Option Addr) (c : Nat) (ls : List (List UInt8)) (hs : StrsG w a ls) (hl : ls.length ≤ 4294967000) :
  ∃ v' w', (∀ ty, (Builtin.append_ #[27, 27] ty #[.slice none 0 0, .slice a ls.length c]).run Tryz.prog w = .ok v' w') ∧ w'.ownsRow 0 9 1 v' ls.length (strsV ls) ∧ Kept (fun _ => False) w w' ∧ (∀ k, v'.ownBlock = some k → w.heap.size ≤ k) := by
 obtain ⟨i0, hi0, hz0, hzs, hzb⟩ := info_parts info_str
 cases ls with
 | nil =>
  refine ⟨.slice none 0 0, w, fun ty => append_none0 Tryz.prog w 27 27 ty 9 i0 Tryz.underlying27 hi0 _ ?_, World.ownsRow_nil _ _ _ _, Kept.refl _ _, fun k hk => by simp [Value.ownBlock] at hk⟩
  cases a with
  | none => exact Src.ofNil w Tryz.underlying27 c
  | some ad => exact Src.ofSlice w Tryz.underlying27 ad 0 c [] (by simp) (fun j u hj => by simp at hj) (fun u hu => by cases hu)
 | cons l r =>
  obtain ⟨g, off, rfl, _⟩ := hs 0 l rfl
  have hsrc : Src Tryz.prog 1 27 (.slice (some ⟨g, off, none⟩) (l :: r).length c) (l :: r).length (strsV (l :: r)) w :=
   Src.ofSlice w Tryz.underlying27 _ _ _ _ (by simp [strsV]) (fun j u hj => by
    have hj' : ((l :: r).map fun l => Value.string ⟨l.toArray⟩)[j]? = some u := hj
    rw [List.getElem?_map] at hj'
    cases hx : (l :: r)[j]? with
    | none => rw [hx] at hj'; cases hj'
    | some x =>
     rw [hx] at hj'
     obtain ⟨g', off', e, hc⟩ := hs j x hx
     cases e
     rw [Addr.add_lit, hc, ← hj']
     rfl) (fun u hu => by
    have hu' : u ∈ (l :: r).map fun l => Value.string ⟨l.toArray⟩ := hu
    obtain ⟨x, _, rfl⟩ := List.mem_map.1 hu'
    rfl)
  obtain ⟨v', w', hr, hown, hk, hn⟩ := append_strong Tryz.prog w 27 27 9 i0 _ 1 16 Tryz.underlying27 hi0 hz0 hzs hzb rfl (by decide) (.slice none 0 0) 0 [] (World.ownsRow_nil _ _ _ _) _ _ _ hsrc (by simp) (by unfold maxLen; omega) (by omega)
  refine ⟨v', w', hr, by rw [Nat.zero_add, List.nil_append] at hown; exact hown, hk.mono (fun k _ h => by simp [Value.ownBlock] at h), fun k hk2 => ?_⟩
  rcases hn k hk2 with h1 | h1
  ·simp [Value.ownBlock] at h1
  ·exact h1
def TakesPost (M B0 : Nat) (w : World) (bw : Nat) (S : WS) (n : Nat) (e' : Ending) (w' : World) : Prop := e' = .returned (.bool true) ∧ Kept (fun b => B0 ≤ b) w w' ∧ ∃ ps', WSt (M + n) B0 w' bw { S with ps := ps' } ∧ ps'.length = S.ps.length
def spare : ByteArray := ⟨#[115, 112, 97, 114, 101]⟩
set_option maxHeartbeats 1000000 in
set_option maxRecDepth 100000 in
theorem takes_any {M B0 : Nat} {w : World} {bw : Nat} {S : WS} {i : Nat} {p : PP} (h : WSt M B0 w bw S) (hB : B0 ≤ w.heap.size) (hi : S.ps[i]? = some p) (a : Option Addr) (c : Nat) (ls : List (List UInt8)) (hM : M + ls.length ≤ 4294967000) (hs : StrsG w a ls) (ho : OffP S a ls.length) :
  Calls Tryz.prog 20 #[.agg #[.pointer (some ⟨p.bx, 0, none⟩), .pointer (some ⟨p.by_, 0, none⟩)], .slice a ls.length c] w (TakesPost M B0 w bw S ls.length) := by
 have hpm := List.mem_of_getElem? hi
 obtain ⟨W0, hW0⟩ : ∃ W, W = w.alloc (.cells #[.pointer (some ⟨p.bx, 0, none⟩), .pointer (some ⟨p.by_, 0, none⟩)] 47) := ⟨_, rfl⟩
 have kW0 : Kept (fun _ => False) w W0 := by rw [hW0]; exact (Kept.refl _ w).alloc _
 have hbx : W0.heap[w.heap.size]? = some (.cells #[.pointer (some ⟨p.bx, 0, none⟩), .pointer (some ⟨p.by_, 0, none⟩)] 47 (0, 0)) := by rw [hW0]; exact heap_alloc_new w _
 have hW0z := lt_of_heap hbx
 obtain ⟨v1, w1, hr1, own1, k1, b1⟩ := append_texts W0 a c ls (hs.keep kW0 (fun _ _ _ h => h)) (by omega)
 obtain ⟨a1, cp1, e1, _, _⟩ := own_slice own1
 subst e1
 obtain ⟨W1, hW1⟩ : ∃ W, W = w1.alloc (.cells #[.string spare, .string spare, .string spare] 9) := ⟨_, rfl⟩
 have kW1 : Kept (fun _ => False) w1 W1 := by rw [hW1]; exact (Kept.refl _ w1).alloc _
 obtain ⟨i0, hi0, hz0, hzs, hzb⟩ := info_parts info_str
 have hsrc := src_new W1 w1.heap.size 9 27 Tryz.underlying27 [.string spare, .string spare, .string spare] (by rw [hW1]; exact heap_alloc_new w1 _) (by intro v hv; simp at hv; subst hv; rfl)
 obtain ⟨v2, w2, hr2, own2, k2, b2⟩ := append_strong Tryz.prog W1 27 27 9 i0 _ 1 16 Tryz.underlying27 hi0 hz0 hzs hzb rfl (by decide) _ _ _ (ownsRow_kept own1 kW1 (fun _ _ h => h)) _ 3 _ hsrc (by decide) (by unfold maxLen; omega) (by omega)
 obtain ⟨a2, cp2, e2, hn2, hm2, f2⟩ := own_cells own2
 obtain ⟨gb, x2, hgb⟩ := f2.resolve_left (by omega)
 subst x2
 subst e2
 have hgbn : w.heap.size < gb := by
  rcases b2 gb rfl with h1 | h1
  ·have := b1 gb h1; omega
  ·have := k1.size; have := kW1.size; omega
 have kw2 : Kept (fun _ => False) w w2 := ((kW0.trans' k1).trans' kW1).trans k2 (fun b hb hs => by have := b1 b hs; have := kW0.size; omega)
 have hgbl : gb < w2.heap.size := (own2.lt gb rfl).2
 have hbx2 : w2.heap[w.heap.size]? = some (.cells #[.pointer (some ⟨p.bx, 0, none⟩), .pointer (some ⟨p.by_, 0, none⟩)] 47 (0, 0)) := k2.heap (kW1.heap (k1.heap hbx (fun h => h)) (fun h => h)) (fun hs => by have := b1 _ hs; omega)
 have G2 := h.quiet kw2
 have hA := G2.peers p hpm
 have hFlt : ∀ b, p.F b ∨ p.G b → b < w.heap.size := (h.all_lt).2.1 p hpm
 have HCON : Hid (∀ (j : Nat) (u : Value), (strsV ls ++ [.string spare, .string spare, .string spare])[j]? = some u → w2.cell? ⟨gb, j, none⟩ = some u) := hgb
 have hs2 := hs.keep kw2 (fun _ _ _ h => h)
 obtain ⟨q, hq⟩ : ∃ q, recvAllF p.N p.s ls = q := ⟨_, rfl⟩
 have hrc : ∀ wa : World, Kept (fun _ => False) w2 wa → Calls Tryz.prog 34 #[.pointer (some ⟨p.bx, 0, none⟩), .slice (some ⟨gb, 0, none⟩) ls.length cp2] wa fun e' w' => e' = .returned (.tuple #[.int .i64 (q.2.1 : Nat), .int .i64 q.2.2]) ∧ Turn p.bx p.F wa w' q.1 := fun wa hk => by
  have := receive_any p.s p.N p.bx p.F ls (some ⟨gb, 0, none⟩) cp2 wa (hA.x.quiet hk) hA.two.fit (by have := hA.two.len; omega) (fun _ => ⟨gb, rfl, fun j l hj => hk.cell' (hgb j _ (by
   rw [List.getElem?_append_left (by simp [strsV]; exact (List.getElem?_eq_some_iff.1 hj).1)]
   show (ls.map _)[j]? = _
   rw [List.getElem?_map, hj]; rfl)) (fun h => h)⟩) (fun ad had hF => by
    cases had
    have := hFlt gb (Or.inl hF)
    omega)
  rw [hq] at this
  exact this
 have HQ : Hid (recvAllF p.N p.s ls = q) := hq
 have HFRZ : Hid (∃ cur, w2.heap[gb]? = some (.cells cur 9 (0, 0))) := by
  rcases own2.2 with ⟨e, _⟩ | ⟨g', cap', cur', e, _, hg', _⟩
  ·cases e
  ·cases e; exact ⟨cur', hg'⟩
 have HLO : Hid (∀ ad, 0 < ls.length → a = some ad → ad.block ≠ gb) := fun ad h0 had he => by
  obtain ⟨l0, hl0⟩ : ∃ l0, ls[0]? = some l0 := ⟨_, List.getElem?_eq_getElem h0⟩
  obtain ⟨g', off', e, hc⟩ := hs 0 l0 hl0
  rw [had] at e
  cases e
  have h3 : g' < w.heap.size := World.block_lt_of_cell? w _ hc
  have h4 : g' = gb := he
  omega
 have HG2 : Hid (WSt M B0 w2 bw S) := G2
 have HA : Hid (p.At M w2) := hA
 have HS2 : Hid (StrsG w2 a ls) := hs2
 have HO : Hid (OffP S a ls.length ∧ S.ps[i]? = some p ∧ p ∈ S.ps) := ⟨ho, hi, hpm⟩
 have HWT : Hid (WSt M B0 w bw S) := h
 have HKW : Hid (Kept (fun _ => False) w w2) := kw2
 have y0 : w2.cell? ⟨w.heap.size, 0, none⟩ = some (.pointer (some ⟨p.bx, 0, none⟩)) := by rw [Lib.cell_of_heap hbx2]; rfl
 have y1 : w2.cell? ⟨w.heap.size, 1, none⟩ = some (.pointer (some ⟨p.by_, 0, none⟩)) := by rw [Lib.cell_of_heap hbx2]; rfl
 have hlm : ls.length ≤ cp2 := by omega
 have hlm1 : (ls.length : Int) ≤ (cp2 : Int) := by omega
 have hln : ls.length ≤ 4294967000 := by omega
 clear h hs hs2 ho hi hpm hq hA G2 own1 own2 k1 k2 b1 b2 kW0 kW1 hbx hsrc hgb f2 hn2 hm2 hzs hzb hz0 hi0 kw2 hW0z
 go_enter Tryz.func20, Tryz.ntmps20
 go_upto_region 1 with fail
 rw [← hW0]
 clear hW0
 go_upto_region 3 with (at_builtin; refine Lib.wpList_append_run _ rfl _ _ _ _ rfl _ _ rfl rfl _ _ (hr1 _) ?_)
 rw [hW1] at hr2
 clear hr1 hW1
 go_upto_region 4 with (at_builtin; refine Lib.wpList_append_run _ rfl _ _ _ _ rfl _ _ rfl rfl _ _ (hr2 _) ?_)
 clear hr2
 go_cut [6, 7] (fun v6 v7 wd => v6 = .int .i64 (q.2.1 : Nat) ∧ v7 = .int .i64 q.2.2 ∧ Turn p.bx p.F w2 wd q.1)
 case first =>
  refine wp_region_tailB (by kernel_rfl) 12 _ rfl (by kernel_rfl) p.F 6 (fun iz v wx => match iz with
   | 0 => v = .pointer (some ⟨w.heap.size, 0, none⟩)
   | 1 => v = .pointer (some ⟨p.bx, 0, none⟩)
   | 2 => v = .slice (some ⟨gb, 0, none⟩) (ls.length + 3) cp2
   | 3 => v = .slice a ls.length c
   | 4 => v = .int .i64 (ls.length : Nat)
   | 5 => v = .slice (some ⟨gb, 0, none⟩) ls.length cp2
   | 6 => (v = .tuple #[.int .i64 (q.2.1 : Nat), .int .i64 q.2.2]) ∧ Turn p.bx p.F w2 wx q.1
   | 7 => v = .tuple #[.int .i64 (q.2.1 : Nat), .int .i64 q.2.2]
   | 8 => v = .int .i64 (q.2.1 : Nat)
   | 9 => v = .int .i64 q.2.2
   | 10 => v = .int .i64 (q.2.1 : Nat)
   | 11 => v = .int .i64 q.2.2
   | _ => True) ?_ ?_ ?_ ?_ ?_
  ·intro i v wa wb hv hk
   split at hv
   case h_7 =>
    exact ⟨hv.1, hv.2.quiet hk⟩
   all_goals exact hv
  ·intro i v wa wb hi hv hk
   split at hv
   case h_7 =>
    exact absurd rfl hi
   all_goals exact hv
  ·intro i o' hin his hi a' wa hk' up
   have hkk : Kept p.F w2 wa := (((Kept.refl (fun _ => False) w2).drew).mono (fun _ _ h => h.elim)).trans' hk'
   have u0 := hkk.cell' y0 (fun hF => Nat.lt_irrefl _ (hFlt w.heap.size (Or.inl hF)))
   have hold : ∀ d : Nat, (d = 1 ∨ d = 2 ∨ d = 5) → a'.tmps[d]? = _ := fun d hd => up.old d (by
    intro j oj hj hjd
    exfalso
    rcases j with _ | _ | _ | _ | _ | _ | _ | _ | _ | _ | _ | _ | j <;> simp at hj <;> subst hj <;> simp at hjd <;> omega)
   have o1 := hold 1 (by decide)
   have o2 := hold 2 (by decide)
   have o5 := hold 5 (by decide)
   simp at o1 o2 o5
   clear hold
   rcases i with _ | _ | _ | _ | _ | _ | _ | _ | _ | _ | _ | _ | i
   all_goals simp only [List.getElem?_cons_zero, List.getElem?_cons_succ, List.getElem?_nil, Option.some.injEq, reduceCtorEq] at hi
   all_goals try subst hi
   ·simp [Oper.wp, go_sem, Act.eval, o2]
    exact ⟨_, rfl, rfl, Kept.refl _ _⟩
   ·obtain ⟨_, s0, rfl⟩ := up.d 0 20 rfl rfl
    simp [Oper.wp, go_sem, Act.eval, s0, u0]
    exact ⟨_, rfl, rfl, Kept.refl _ _⟩
   ·simp [Oper.wp, go_sem, Act.eval, o5]
    exact ⟨_, rfl, rfl, Kept.refl _ _⟩
   ·simp [Oper.wp, go_sem, Act.eval, o1]
    exact ⟨_, rfl, rfl, Kept.refl _ _⟩
   ·obtain ⟨_, s3, rfl⟩ := up.d 3 23 rfl rfl
    simp [Oper.wp, go_sem, Act.eval, s3]
    exact ⟨_, rfl, rfl, Kept.refl _ _⟩
   ·obtain ⟨_, s2, rfl⟩ := up.d 2 22 rfl rfl
    obtain ⟨_, s4, rfl⟩ := up.d 4 24 rfl rfl
    simp [Oper.wp, go_sem, Act.eval, s2, s4, hlm, hlm1]
    exact ⟨_, rfl, rfl, Kept.refl _ _⟩
   ·exact absurd rfl his
   ·obtain ⟨v6, s6, hv6⟩ := up.d 6 26 rfl rfl
    obtain ⟨hv6e, _⟩ := hv6
    subst hv6e
    simp [Oper.wp, go_sem, Act.eval, s6]
    exact ⟨_, rfl, rfl, Kept.refl _ _⟩
   ·obtain ⟨_, s7, rfl⟩ := up.d 7 19 rfl rfl
    simp [Oper.wp, go_sem, Act.eval, s7]
    exact ⟨_, rfl, rfl, Kept.refl _ _⟩
   ·obtain ⟨_, s7, rfl⟩ := up.d 7 19 rfl rfl
    simp [Oper.wp, go_sem, Act.eval, s7]
    exact ⟨_, rfl, rfl, Kept.refl _ _⟩
   ·obtain ⟨_, s8, rfl⟩ := up.d 8 27 rfl rfl
    simp [Oper.wp, go_sem, Act.eval, s8]
    exact ⟨_, rfl, rfl, Kept.refl _ _⟩
   ·obtain ⟨_, s9, rfl⟩ := up.d 9 28 rfl rfl
    simp [Oper.wp, go_sem, Act.eval, s9]
    exact ⟨_, rfl, rfl, Kept.refl _ _⟩
  ·intro o' _ ho a' wa hk' up
   have hkk : Kept p.F w2 wa := (((Kept.refl (fun _ => False) w2).drew).mono (fun _ _ h => h.elim)).trans' (hk'.mono (fun _ _ h => h.elim))
   have u0 := hkk.cell' y0 (fun hF => Nat.lt_irrefl _ (hFlt w.heap.size (Or.inl hF)))
   simp only [List.getElem?_cons_zero, List.getElem?_cons_succ, List.getElem?_nil, Option.some.injEq, reduceCtorEq] at ho
   subst ho
   obtain ⟨_, s1, rfl⟩ := up.d 1 21 rfl rfl
   obtain ⟨_, s5, rfl⟩ := up.d 5 25 rfl rfl
   have hkq : Kept (fun _ => False) w2 wa := ((Kept.refl _ w2).drew).trans' hk'
   simp [Oper.wp, go_sem, Act.eval, s1, s5]
   refine (hrc wa hkq).mono ?_
   rintro e' w' ⟨rfl, T⟩
   obtain ⟨F', X, K, N⟩ := T
   exact ⟨_, rfl, ⟨rfl, F', X, (hkq.mono (fun _ _ h => h.elim) : Kept p.F w2 wa).trans' K, fun k hk => (N k hk).imp id (fun h => Nat.le_trans hkq.size h)⟩, K⟩
  ·intro vals wz hk hvv
   obtain ⟨h6, T6⟩ := hvv 6 (by decide)
   have h10 : vals 10 = _ := hvv 10 (by decide)
   have h11 : vals 11 = _ := hvv 11 (by decide)
   have HT : Hid (Turn p.bx p.F w2 wz q.1) := T6
   clear hvv hk T6
   simp only [List.take_succ_cons, List.take_zero, List.drop_succ_cons, List.drop_zero, putAll, Act.put, h10, h11]
   simp only [Nat.reduceAdd, Nat.zero_add, List.setIfInBounds_toArray, List.set_cons_succ, List.set_cons_zero]
   go_wp2_with fail
   go_meet
   exact ⟨rfl, rfl, HT.out⟩
 case rest =>
 obtain ⟨w3, hw3⟩ : ∃ x, x = wc := ⟨_, rfl⟩
 subst hw3
 obtain ⟨rfl, rfl, T3⟩ := hcut
 obtain ⟨F', X3, K3, N3⟩ := T3
 have HT3 : Hid (Turn p.bx p.F w2 w3 q.1 ∧ Kept p.F w2 w3) := ⟨⟨F', X3, K3, N3⟩, K3⟩
 have y1' : w3.cell? ⟨w.heap.size, 1, none⟩ = some (.pointer (some ⟨p.by_, 0, none⟩)) := K3.cell' y1 (fun hF => Nat.lt_irrefl _ (hFlt w.heap.size (Or.inl hF)))
 have z1 : w.heap.size < w3.heap.size := World.block_lt_of_cell? w3 _ y1'
 have hrr := rreceive_any (HA.out.y.keep K3 (fun b hb hF => HA.out.off b hF hb)) HA.out.two ls hM a c (HS2.out.keep K3 (fun h0 ad had hF => HO.out.1 h0 ad had p HO.out.2.2 (Or.inl hF))) (fun h0 ad had hG => HO.out.1 h0 ad had p HO.out.2.2 (Or.inr hG))
 unfold RRecvPost at hrr
 rw [HQ.out] at hrr
 clear X3 K3 N3 y0 y1
 go_wp2_with fail
 refine hrr.mono ?_
 clear hrr y1' z1
 rintro e4 w4 ⟨rfl, t', tw4, T4⟩
 have K4 : Kept p.G w3 w4 := T4.kept
 have HT4 : Hid (Two p.N (M + ls.length) q.1 t' ∧ RTurn p.by_ p.G w3 w4 t') := ⟨tw4, T4⟩
 have K24 : Kept (fun b => p.F b ∨ p.G b) w2 w4 := (HT3.out.2.mono (fun _ _ h => Or.inl h)).trans K4 (fun _ _ h => Or.inr h)
 have hgb4 : ¬ (p.F gb ∨ p.G gb) := fun hF => by have := hFlt gb hF; omega
 have HCON4 : Hid (∀ (j : Nat) (u : Value), (strsV ls ++ [.string spare, .string spare, .string spare])[j]? = some u → w4.cell? ⟨gb, j, none⟩ = some u) := fun j u hu => K24.cell' (HCON.out j u hu) hgb4
 have HS4 : Hid (StrsG w4 a ls) := HS2.out.keep K24 (fun h0 ad had => HO.out.1 h0 ad had p HO.out.2.2)
 have HF4 : Hid (∃ cur, w4.heap[gb]? = some (.cells cur 9 (0, 0))) := by
  obtain ⟨cur, hcur⟩ := HFRZ.out
  exact ⟨cur, K24.heap hcur hgb4⟩
 clear K4 K24 T4 tw4 HCON HS2
 have hnum := lnum_any
 go_wp2_with fail
 go_loopw [10, 11] (fun wv iv wr => ∃ k : Nat, k ≤ ls.length + 3 ∧ iv = .int .i64 k ∧ wv = .bool true ∧ Hid (Kept (fun b => b = gb) w4 wr ∧ (∃ cur, wr.heap[gb]? = some (.cells cur 9 (0, 0))) ∧ ∀ (j : Nat) (u : Value), k ≤ j → (strsV ls ++ [.string spare, .string spare, .string spare])[j]? = some u → wr.cell? ⟨gb, j, none⟩ = some u)) (fun _ i _ => ls.length + 3 - (intOf i).toNat)
 case atStart => exact ⟨0, Nat.zero_le _, rfl, rfl, Kept.refl _ _, HF4.out, fun j u _ hu => HCON4.out j u hu⟩
 case round =>
  obtain ⟨k, hk, rfl, rfl, HR⟩ := hrel
  obtain ⟨R1, ⟨cur, hcur⟩, R3⟩ := HR.out
  by_cases hlt : k < ls.length + 3
  ·have hki : (k : Int) < (ls.length : Int) + 3 := by omega
   have zf : ∀ j, wr.frozen? ⟨gb, j, none⟩ = false := Lib.frozen_of_heap hcur
   have zg := lt_of_heap hcur
   have HN : Hid (∀ v : Value, Kept (fun b => b = gb) w4 (wr.setCell ⟨gb, k, none⟩ v) ∧ (∃ cur, (wr.setCell ⟨gb, k, none⟩ v).heap[gb]? = some (.cells cur 9 (0, 0))) ∧ ∀ (j : Nat) (u : Value), k + 1 ≤ j → (strsV ls ++ [.string spare, .string spare, .string spare])[j]? = some u → (wr.setCell ⟨gb, k, none⟩ v).cell? ⟨gb, j, none⟩ = some u) := fun v => by
    refine ⟨R1.setCell (p := ⟨gb, k, none⟩) (fun _ => rfl) _, ⟨_, heap_set_same hcur k v⟩, fun j u hj hu => ?_⟩
    have h1 := R3 j u (by omega) hu
    rw [Lib.cell_of_heap (heap_set_same hcur k v)]
    rw [Lib.cell_of_heap hcur] at h1
    rw [Array.getElem?_setIfInBounds_ne (by omega)]
    exact h1
   by_cases hkl : k < ls.length
   ·obtain ⟨l, hl⟩ : ∃ l, ls[k]? = some l := ⟨_, List.getElem?_eq_getElem hkl⟩
    obtain ⟨gl, off, rfl, hc⟩ := HS4.out k l hl
    have cl := R1.cell' hc (HLO.out ⟨gl, off, none⟩ (by omega) rfl)
    have cg : wr.cell? ⟨gb, k, none⟩ = some (.string ⟨l.toArray⟩) := R3 k _ (Nat.le_refl _) (by
     rw [List.getElem?_append_left (by simp [strsV]; exact hkl)]
     show (ls.map _)[k]? = _
     rw [List.getElem?_map, hl]; rfl)
    obtain ⟨Lb, hLb⟩ : ∃ Lb : ByteArray, (⟨l.toArray⟩ : ByteArray) = Lb := ⟨_, rfl⟩
    rw [hLb] at cl cg
    have zl : gl < wr.heap.size := World.block_lt_of_cell? wr _ cl
    have hkli : (k : Int) < (ls.length : Int) := by omega
    clear R1 R3 hcur hc hl hLb
    go_wp2_with fail
    go_roundw
    case rel => exact ⟨k + 1, by omega, by go_num, rfl, HN.out _⟩
    case measure => simp [intOf]; omega
   ·have cg : wr.cell? ⟨gb, k, none⟩ = some (.string ⟨#[115, 112, 97, 114, 101]⟩) := R3 k _ (Nat.le_refl _) (by
     have hd : k - ls.length < 3 := by omega
     rw [List.getElem?_append_right (by simp [strsV]; omega)]
     have e : (strsV ls).length = ls.length := by simp [strsV]
     rw [e]
     obtain ⟨d, hdd⟩ : ∃ d, k - ls.length = d := ⟨_, rfl⟩
     rw [hdd] at hd ⊢
     rcases d with _ | _ | _ | d
     ·rfl
     ·rfl
     ·rfl
     ·omega)
    have hkli : ¬ (k : Int) < (ls.length : Int) := by omega
    clear R1 R3 hcur
    go_wp2_with fail
    go_roundw
    case rel => exact ⟨k + 1, by omega, by go_num, rfl, HN.out _⟩
    case measure => simp [intOf]; omega
  ·have hki : ¬ (k : Int) < (ls.length : Int) + 3 := by omega
   have HR1 : Hid (Kept (fun b => b = gb) w4 wr) := R1
   clear R1 R3 hcur
   go_wp2_with fail
   refine (hnum _ wr).mono ?_
   rintro e5 w5 ⟨rfl, hw5⟩
   subst w5
   go_wp2_with fail
   refine (hnum _ wr).mono ?_
   rintro e6 w6 ⟨rfl, hw6⟩
   subst w6
   go_wp2_with fail
   go_ret
   obtain ⟨F', G', Z1, Z2, Z3, Z4⟩ := HG2.out.turn2 (Nat.le_trans hB HKW.out.size) (Nat.le_add_right M ls.length) HO.out.2.1 HT3.out.1 HT4.out.2 HT4.out.1
   have hall := HWT.out.all_lt
   have Z5 := Z1.keep HR1.out (fun b hb => by
    subst hb
    refine ⟨fun hw => by have := hall.1 _ hw; omega, fun pp hpp hF => ?_, fun hL => by have := hall.2.2 _ hL; omega⟩
    obtain ⟨j, hj⟩ := List.getElem?_of_mem hpp
    have hj : (S.ps.set i ⟨p.bx, p.by_, p.N, q.1, t', F', G'⟩)[j]? = some pp := hj
    rw [List.getElem?_set] at hj
    by_cases hij : i = j
    ·rw [if_pos hij] at hj
     split at hj
     ·cases hj
      rcases Z4 _ hF with h1 | h1
      ·have := hFlt _ h1; omega
      ·omega
     ·cases hj
    ·rw [if_neg hij] at hj
     have := hall.2.1 pp (List.mem_of_getElem? hj) _ hF
     omega)
   refine ⟨rfl, ?_, _, Z5, by rw [List.length_set]⟩
   exact (((HKW.out.mono (fun _ _ h => h.elim) : Kept (fun b => B0 ≤ b) w w2).trans' Z2).trans' (HR1.out.mono (fun b _ hb => by rw [hb]; omega)))
theorem takes_ok : TakesOk := fun M B0 w bw S i p h hB hi a c ls h1 h2 hM hs ho => takes_any h hB hi a c ls hM hs ho
end Go.Proofs.YtgfafbanahiigaaGreat
