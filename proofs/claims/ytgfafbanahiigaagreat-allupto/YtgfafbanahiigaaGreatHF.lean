import Derived.Test.YtgfafbanahiigaaGreatHB
import Derived.Test.YtgfafbanahiigaaGreatHE
import Derived.Test.YtgfafbanahiigaaGreatW8
set_option linter.unusedVariables false
set_option linter.unusedSimpArgs false
namespace Go.Proofs.YtgfafbanahiigaaGreat
open Go.RowKit Go.Chorus
def ln0 : Ln := ⟨0, 0, 0, []⟩
def vlen : Value → Nat
 | .slice _ n _ => n
 | _ => 0
def LnOf (N : Nat) (K : Log) (l : Ln) : Prop := (l.g < N ∧ l.cap ≤ 9223372036854775807 ∧ l.ms.length < 4294967296) ∧ ∀ m ∈ l.ms, ∃ r ∈ K.ms, m ∈ r
theorem LnOf.next {N : Nat} {K : Log} {l : Ln} (h : LnOf N K l) : LnOf N K l.next := ⟨⟨h.1.1, by show l.cap - 1 ≤ _; have := h.1.2.1; omega, by show l.ms.tail.length < _; rw [List.length_tail]; have := h.1.2.2; omega⟩, fun m hm => h.2 m (List.mem_of_mem_tail hm)⟩
structure AbvA (w wr : World) (bl : Nat) (K : Log) (qs : List Nat) (k : Nat) (v : Value) (hs : List Ln) : Prop where
 hp : HpAt wr bl v hs
 ok : HeapL ln0 hs
 perm : (hs.map Ln.ops).Perm (((above qs (K.ms.map (List.map MOp.o))).take k).filter fun l => !l.isEmpty)
 len : hs.length ≤ k
 of : ∀ l ∈ hs, LnOf w.heap.size K l
 new : ∀ b, HpF bl v b → w.heap.size ≤ b
 kept : Kept (fun _ => False) w wr
theorem above_at (qs : List Nat) (log : List (List Ope)) (k : Nat) (l : List Ope) (q : Nat) (hl : log[k]? = some l) (hq : qs[k]? = some q) : (above qs log).take (k + 1) = (above qs log).take k ++ [l.drop q] := by
 have hk := (List.getElem?_eq_some_iff.1 hl).1
 have h1 : k < (above qs log).length := by simp [above]; exact hk
 have h2 : (above qs log)[k] = l.drop q := by
  simp only [above, List.getElem_map, List.getElem_range, List.getD_eq_getElem?_getD, hl, hq, Option.getD_some]
 rw [List.take_succ_eq_append_getElem h1, h2]
structure AbvB (w wr : World) (bl : Nat) (K : Log) (ls0 : List (List Ope)) (T : Nat) (v mv : Value) (hs : List Ln) (mg : List MOp) (ls : List (List Ope)) : Prop where
 hp : HpAt wr bl v hs
 ok : HeapL ln0 hs
 perm : (hs.map Ln.ops).Perm (ls.filter fun l => !l.isEmpty)
 merged : ∀ r, Merged ls r → Merged ls0 (mg.map MOp.o ++ r)
 row : wr.ownsRow 0 115 8 mv mg.length (opsCells mg)
 len : hs.length ≤ 8
 of : ∀ l ∈ hs, LnOf w.heap.size K l
 mof : ∀ m ∈ mg, ∃ r ∈ K.ms, m ∈ r
 total : mg.length + (hs.map fun l => l.ms.length).sum = T
 new : ∀ b, HpF bl v b → w.heap.size ≤ b
 mnew : ∀ b, mv.ownBlock = some b → w.heap.size ≤ b
 kept : Kept (fun _ => False) w wr
theorem sum_perm {a b : List Nat} (h : a.Perm b) : a.sum = b.sum := by
 induction h with
 | nil => rfl
 | cons x _ ih => simp [ih]
 | swap x y l => simp; omega
 | trans _ _ ih1 ih2 => exact ih1.trans ih2
set_option maxHeartbeats 2000000 in
set_option maxRecDepth 100000 in
theorem above_all (b o c : Nat) (K : Log) (kn qs : List Nat) (gq cq : Nat) (w : World) (h0 : w.cell? ⟨b, o, none⟩ = some (.slice (some ⟨K.b, 0, none⟩) kn.length c)) (h : LogAt w K kn) (hn : kn.length ≤ 8) (hql : qs.length = kn.length)
  (hq : ∀ (i n : Nat), qs[i]? = some n → w.cell? ⟨gq, i, none⟩ = some (.int .i64 (n : Int))) (hkb : ∀ n ∈ kn, n < 4294967296) :
  Calls Tryz.prog 54 #[.pointer (some ⟨b, o, none⟩), .slice (some ⟨gq, 0, none⟩) qs.length cq] w fun e' w' => ∃ v ms, e' = .returned v ∧ w'.ownsRow 0 115 8 v ms.length (opsCells ms) ∧ Merged (above qs (K.ms.map (List.map MOp.o))) (ms.map MOp.o) ∧ (∀ m ∈ ms, ∃ r ∈ K.ms, m ∈ r) ∧ Kept (fun _ => False) w w' ∧ (∀ b, v.ownBlock = some b → w.heap.size ≤ b) ∧ ms.length ≤ 8 * 4294967296 := by
 have hbw := World.block_lt_of_cell? w _ h0
 have hKb := lt_of_heap h.block
 have hlv := h.lenV
 have hlm := h.lenM
 go_enter Tryz.func54, Tryz.ntmps54
 go_wp2
 have A0 : Hid (∃ v hs, AbvA w (w.alloc (.cells #[.slice none 0 0] 136)) w.heap.size K qs 0 v hs) := by
  refine ⟨.slice none 0 0, [], ⟨heap_alloc_new w _, World.ownsRow_nil _ _ _ _, fun l hl => (by cases hl)⟩, (fun i _ hi => absurd hi (by simp)), by simp, Nat.le_refl _, fun l hl => (by cases hl), ?_, (Kept.refl _ w).alloc _⟩
  rintro b (rfl | hb)
  ·exact Nat.le_refl _
  ·simp [Value.ownBlock] at hb
 go_loopw [14] (fun iv wr => ∃ k : Nat, k ≤ kn.length ∧ iv = .int .i64 k ∧ Hid (∃ v hs, AbvA w wr w.heap.size K qs k v hs)) (fun iv _ => kn.length - (intOf iv).toNat)
 case atStart => exact ⟨0, Nat.zero_le _, rfl, A0⟩
 case round =>
  clear A0
  obtain ⟨k, hk, rfl, R⟩ := hrel
  obtain ⟨v, hs, R⟩ := R.out
  by_cases hlt : k < kn.length
  ·have hlt2 : (k : Int) < (kn.length : Int) := by omega
   have hlt4 : (k : Int) < (qs.length : Int) := by omega
   obtain ⟨u, l, hu, hl, hll, hrow, hcell⟩ := h.one (p := k) (List.getElem?_eq_getElem hlt)
   obtain ⟨q, hqk⟩ : ∃ q, qs[k]? = some q := ⟨_, List.getElem?_eq_getElem (by omega)⟩
   have cK := R.kept.cell' hcell (fun h => h)
   have cQ := R.kept.cell' (hq k q hqk) (fun h => h)
   have zK := World.block_lt_of_cell? wr _ cK
   have zQ := World.block_lt_of_cell? wr _ cQ
   have hnl := hkb _ (List.getElem_mem hlt)
   rw [← hll] at hrow hnl
   have hlo : (K.ms.map (List.map MOp.o))[k]? = some (l.map MOp.o) := by rw [List.getElem?_map, hl]; rfl
   have hab := above_at qs _ k _ q hlo hqk
   obtain ⟨ua, uc, hue, hu1, hu2⟩ := own_slice hrow
   by_cases hql2 : q < l.length
   ·have hqlt : q < 4294967296 := by omega
    have hql3 : (q : Int) < (l.length : Int) := by omega
    have hql4 : (q : Int) ≤ (l.length : Int) := by omega
    obtain ⟨g, cap, cur, hv2, hg, hcap, hmax, hsz, htk⟩ : ∃ g cap cur, u = .slice (some ⟨g, 0, none⟩) l.length cap ∧ w.heap[g]? = some (.cells cur 115 (0, 0)) ∧ l.length ≤ cap ∧ cap ≤ maxLen ∧ cur.size = cap * 8 ∧ cur.toList.take (l.length * 8) = opsCells l := by
     rcases hrow.2 with ⟨_, h0⟩ | ⟨g, cap, cur, e1, _, e3, e4, e5, e6, e7⟩
     ·omega
     ·exact ⟨g, cap, cur, e1, e3, e4, e5, e6, e7⟩
    subst hv2
    have hx : LnAt wr ⟨g, q * 8, cap - q, l.drop q⟩ := by
     refine ⟨fun e => ?_, ?_, cur, R.kept.heap hg (fun h => h), fun i m hi j u hu => ?_⟩
     ·have e' : l.drop q = [] := e
      rw [List.drop_eq_nil_iff] at e'
      omega
     ·show (l.drop q).length ≤ cap - q
      rw [List.length_drop]; omega
     ·have hi' : l[q + i]? = some m := by
       have h3 : (l.drop q)[i]? = some m := hi
       rw [List.getElem?_drop] at h3
       exact h3
      have hj8 : j < 8 := by
       have := (List.getElem?_eq_some_iff.1 hu).1
       simpa [MOp.cells] using this
      have h4 := opsCells_at l (q + i) m hi' j hj8
      rw [hu, ← htk, List.getElem?_take] at h4
      split at h4
      ·show cur[q * 8 + i * 8 + j]? = some u
       rw [← Array.getElem?_toList, show q * 8 + i * 8 + j = (q + i) * 8 + j by omega]
       exact h4
      ·cases h4
    have hp := hp_Push_any ln0 R.hp (by have := R.len; omega) hx R.ok
    have hxv : (Ln.val ⟨g, q * 8, cap - q, l.drop q⟩) = .slice (some ⟨g, q * 8, none⟩) (l.length - q) (cap - q) := by
     show Value.slice _ (l.drop q).length _ = _
     rw [List.length_drop]
    rw [hxv] at hp
    have hq8 : (q : Int) ≤ (cap : Int) := by omega
    have hmx : cap ≤ 9223372036854775807 := by unfold maxLen at hmax; omega
    have HR : Hid _ := R
    have HX : Hid (hs.length ≤ k ∧ l.drop q ≠ [] ∧ l ∈ K.ms) := ⟨R.len, hx.ne, List.mem_of_getElem? hl⟩
    have hpm : Hid (∀ (w' : World) (v' : Value) (hs' : List Ln), HpAt w' w.heap.size v' hs' → hs'.Perm (hs ++ [⟨g, q * 8, cap - q, l.drop q⟩]) → HeapL ln0 hs' → Kept (HpF w.heap.size v) wr w' → (∀ b, HpF w.heap.size v' b → HpF w.heap.size v b ∨ wr.heap.size ≤ b) → ∃ v hs, AbvA w w' w.heap.size K qs (k + 1) v hs) := by
     intro w' v' hs' a1 a2 a3 a4 a5
     refine ⟨v', hs', a1, a3, ?_, ?_, ?_, ?_, ?_⟩
     ·rw [hab, List.filter_append]
      refine (a2.map Ln.ops).trans ?_
      rw [List.map_append]
      refine List.Perm.append R.perm ?_
      have hne : ¬ (l.map MOp.o).drop q = [] := by
       rw [List.drop_eq_nil_iff, List.length_map]; omega
      have : ([(l.map MOp.o).drop q].filter fun l => !l.isEmpty) = [(l.map MOp.o).drop q] := by
       rw [List.filter_cons_of_pos (by simpa using hne)]; rfl
      rw [this]
      show List.Perm [(l.drop q).map MOp.o] _
      rw [List.map_drop]
     ·rw [a2.length_eq, List.length_append]
      have := R.len
      simp
      omega
     ·intro y hy
      rcases List.mem_append.1 (a2.mem_iff.1 hy) with h1 | h1
      ·exact R.of y h1
      ·rw [List.mem_singleton.1 h1]
       exact ⟨⟨lt_of_heap hg, by show cap - q ≤ _; omega, by show (l.drop q).length < _; rw [List.length_drop]; omega⟩, fun m hm => ⟨l, List.mem_of_getElem? hl, List.mem_of_mem_drop hm⟩⟩
     ·intro y hy
      rcases a5 y hy with h1 | h1
      ·exact R.new y h1
      ·exact Nat.le_trans R.kept.size h1
     ·exact R.kept.trans a4 (fun i hi hf => by have := R.new i hf; omega)
    clear hx R hab hlo hg htk hsz hmax hrow hu hl hxv HR HX hue hll hu1 hu2 hcell
    go_wp2_with fail
    refine hp.mono ?_
    rintro e1 w1 ⟨rfl, v', hs', a1, a2, a3, a4, a5⟩
    have R2 : Hid _ := hpm.out w1 v' hs' a1 a2 a3 a4 a5
    clear hp hpm a1 a2 a3 a4 a5
    go_wp2
    go_roundw
    case rel => exact ⟨k + 1, by omega, by go_num, R2⟩
    case measure => simp [intOf]; omega
   ·have hql3 : ¬ (q : Int) < (l.length : Int) := by omega
    have hql4 : decide ((q : Int) < (l.length : Int)) = false := by rw [decide_eq_false_iff_not]; exact hql3
    have R2 : Hid (∃ v hs, AbvA w wr w.heap.size K qs (k + 1) v hs) := by
     refine ⟨v, hs, R.hp, R.ok, ?_, by have := R.len; omega, R.of, R.new, R.kept⟩
     rw [hab, List.filter_append]
     have : ([(l.map MOp.o).drop q].filter fun l => !l.isEmpty) = [] := by
      have h1 : (l.map MOp.o).drop q = [] := by rw [List.drop_eq_nil_iff, List.length_map]; omega
      rw [h1]; rfl
     rw [this, List.append_nil]
     exact R.perm
    subst hue
    clear R hab hlo hrow hu hl hll hcell
    go_wp2
    go_roundw
    case rel => exact ⟨k + 1, by omega, by go_num, R2⟩
    case measure => simp [intOf]; omega
  ·have hlt2 : ¬ (k : Int) < (kn.length : Int) := by omega
   have hlt3 : decide ((k : Int) < (kn.length : Int)) = false := by rw [decide_eq_false_iff_not]; exact hlt2
   have hke : k = kn.length := by omega
   have hB : Hid (∃ v hs mg ls, AbvB w wr w.heap.size K (above qs (K.ms.map (List.map MOp.o))) ((hs.map fun l => l.ms.length).sum) v (.slice none 0 0) hs mg ls ∧ mg = []) := by
    refine ⟨v, hs, [], above qs (K.ms.map (List.map MOp.o)), ⟨R.hp, R.ok, ?_, fun r hr => hr, World.ownsRow_nil _ _ _ _, by have := R.len; omega, R.of, fun m hm => (by cases hm), by simp, R.new, fun b hb => (by simp [Value.ownBlock] at hb), R.kept⟩, rfl⟩
    have := R.perm
    rw [List.take_of_length_le (by simp [above]; omega)] at this
    exact this
   obtain ⟨v2, hs2, mg2, ls2, hB2, _⟩ := hB.out
   have hTb : (hs2.map fun l => l.ms.length).sum ≤ 8 * 4294967296 := by
    have key : ∀ l : List Ln, (∀ y ∈ l, y.ms.length < 4294967296) → (l.map fun l => l.ms.length).sum ≤ l.length * 4294967296 := by
     intro l
     induction l with
     | nil => intro _; simp
     | cons y r ih =>
      intro hy
      have h1 := hy y (by simp)
      have h2 := ih (fun z hz => hy z (by simp [hz]))
      simp only [List.map_cons, List.sum_cons, List.length_cons]
      omega
    have h1 := key hs2 (fun y hy => (hB2.of y hy).1.2.2)
    have h2 := hB2.len
    exact Nat.le_trans h1 (Nat.mul_le_mul_right _ h2)
   obtain ⟨T, hT⟩ : ∃ T, (hs2.map fun l => l.ms.length).sum = T := ⟨_, rfl⟩
   rw [hT] at hB2 hTb
   have HB : Hid (∃ hs mg ls v, AbvB w wr w.heap.size K (above qs (K.ms.map (List.map MOp.o))) T v (.slice none 0 0) hs mg ls) := ⟨hs2, mg2, ls2, v2, hB2⟩
   clear hB hB2 hT R h hq hkb
   go_wp2
   go_loopw [8] (fun mv wr => Hid (∃ hs mg ls v, AbvB w wr w.heap.size K (above qs (K.ms.map (List.map MOp.o))) T v mv hs mg ls)) (fun mv _ => T - vlen mv)
   case atStart => exact HB
   case round =>
    clear HB
    obtain ⟨hs, mg, ls, v, R⟩ := hrel.out
    clear hrel
    obtain ⟨va, vc, hve, _, _⟩ := own_slice R.hp.row
    obtain ⟨ma, mc, hme, _, _⟩ := own_slice R.row
    subst hme
    have c5 := R.hp.cell
    have z5 := lt_of_heap R.hp.box
    cases hs with
    | nil =>
     have hve2 : v = .slice va 0 vc := hve
     clear hve
     subst hve2
     have hfin : Hid (∃ v ms, Value.slice ma mg.length mc = v ∧ wr.ownsRow 0 115 8 v ms.length (opsCells ms) ∧ Merged (above qs (K.ms.map (List.map MOp.o))) (ms.map MOp.o) ∧ (∀ m ∈ ms, ∃ r ∈ K.ms, m ∈ r) ∧ Kept (fun _ => False) w wr ∧ (∀ b, v.ownBlock = some b → w.heap.size ≤ b) ∧ ms.length ≤ 8 * 4294967296) := by
      refine ⟨_, mg, rfl, R.row, ?_, R.mof, R.kept, R.mnew, by have := R.total; simp at this; omega⟩
      have := R.merged [] (Merged.ended R.perm)
      rw [List.append_nil] at this
      exact this
     clear R
     go_wp2
     go_ret
     obtain ⟨v, ms, f1, f2⟩ := hfin.out
     exact ⟨v, ms, congrArg Ending.returned f1, f2⟩
    | cons x t =>
     have hve2 : v = .slice va (t.length + 1) vc := hve
     clear hve
     subst hve2
     obtain ⟨g, cap, cur, hvb, hg, hgl, hcur⟩ := R.hp.block (by simp)
     have hvb2 : va = some ⟨g, 0, none⟩ ∧ vc = cap := by
      injection hvb with e1 e2 e3
      exact ⟨e1, e3⟩
     obtain ⟨rfl, rfl⟩ := hvb2
     clear hvb
     have hL := R.hp.lines x (by simp)
     obtain ⟨m, rest, hms⟩ := List.exists_cons_of_ne_nil hL.ne
     obtain ⟨x0, x1, x2, x3, x4, x5, x6, x7⟩ := hL.op 0 m (by rw [hms]; rfl)
     simp only [Nat.zero_mul, Nat.add_zero] at x0 x1 x2 x3 x4 x5 x6 x7
     have xz := World.block_lt_of_cell? wr _ x0
     have ch : wr.cell? ⟨g, 0, none⟩ = some (.slice (some ⟨x.g, x.off, none⟩) (rest.length + 1) x.cap) := by
      rw [Lib.cell_of_heap hg, hcur 0 x rfl]
      unfold Ln.val
      rw [hms]; rfl
     have zg := lt_of_heap hg
     obtain ⟨i0, hi0, hz0, hzs, hzb⟩ := info_parts info_op
     have htot := R.total
     rw [List.map_cons, List.sum_cons, hms, List.length_cons] at htot
     obtain ⟨W, hW⟩ : ∃ W, W = wr.alloc (.cells #[.int .u8 m.o.kind, .int .u8 m.o.peer, .int .u32 m.o.num, .int .u32 m.o.clock, .slice (some ⟨m.g, 0, none⟩) m.o.seen.length m.cap, .int .u32 m.o.nclock, .int .u8 m.o.npeer, .int .i32 m.o.char] 115) := ⟨_, rfl⟩
     have hkW : Kept (fun _ => False) wr W := by rw [hW]; exact (Kept.refl _ wr).alloc _
     have hnb : W.heap[wr.heap.size]? = some (.cells #[.int .u8 m.o.kind, .int .u8 m.o.peer, .int .u32 m.o.num, .int .u32 m.o.clock, .slice (some ⟨m.g, 0, none⟩) m.o.seen.length m.cap, .int .u32 m.o.nclock, .int .u8 m.o.npeer, .int .i32 m.o.char] 115 (0, 0)) := by rw [hW]; exact heap_alloc_new wr _
     obtain ⟨v', w2, hr, hown', hkp, hblk⟩ := append_strong Tryz.prog W 67 67 115 i0 _ 8 56 Tryz.underlying67 hi0 hz0 hzs hzb rfl (by decide) (.slice ma mg.length mc) mg.length (opsCells mg) (ownsRow_kept R.row hkW (fun _ _ h => h)) (.slice (some ⟨wr.heap.size, 0, none⟩) 1 1) 1 (opsCells [m])
      (Src.ofSlice _ Tryz.underlying67 ⟨wr.heap.size, 0, none⟩ 1 1 _ rfl (fun j u hj => by rw [Addr.add_lit, Lib.cell_of_heap hnb]; simpa [opsCells, MOp.cells] using hj) (ops_oneCell _)) (by decide) (by unfold maxLen; omega) (by omega)
     have k2 : Kept (fun b => (Value.slice ma mg.length mc).ownBlock = some b) wr w2 := (hkW.mono (fun _ _ h => h.elim)).trans hkp (fun _ _ h => h)
     have H2 : HpAt w2 w.heap.size (.slice (some ⟨g, 0, none⟩) (t.length + 1) vc) (x :: t) := by
      refine R.hp.keep k2 (fun b hb hm => ?_) (fun y hy hm => ?_)
      ·rcases hb with rfl | hb
       ·exact own_ne R.row R.hp.box (by decide) hm
       ·have e : b = g := by simpa [Value.ownBlock] using hb.symm
        subst e
        exact own_ne R.row hg (by decide) hm
      ·have h1 := R.mnew _ hm
       have h2 := (R.of y hy).1.1
       omega
     have htf := takeFirst_all ln0 H2 (by have := R.len; simp at this; omega) R.ok (R.of x (by simp)).1.2.1
     obtain ⟨av, cv, hveq, _, _⟩ := own_slice hown'
     subst hveq
     have hbn : ∀ b, (Value.slice av (mg.length + 1) cv).ownBlock = some b → w.heap.size ≤ b := fun b hb => by
      rcases hblk b hb with h1 | h1
      ·exact R.mnew b h1
      ·exact Nat.le_trans R.kept.size (Nat.le_trans hkW.size h1)
     obtain ⟨ls', hp1, hp2⟩ := Merged.next (f := Ln.ops) (h := x) (t := t) (o := m.o) (u := rest.map MOp.o) R.perm (R.ok.ok R.hp.neg) (by unfold Ln.ops; rw [hms]; rfl)
     have hrest : (rest.map MOp.o = []) ↔ x.ms.length = 1 := by rw [hms]; simp
     have hfin : Hid (∀ (w3 : World) (v3 : Value) (hs' : List Ln), HpAt w3 w.heap.size v3 hs' → ((x.ms.length = 1 ∧ hs'.Perm t) ∨ (2 ≤ x.ms.length ∧ hs'.Perm (x.next :: t))) → HeapL ln0 hs' → Kept (HpF w.heap.size (.slice (some ⟨g, 0, none⟩) (t.length + 1) vc)) w2 w3 → (∀ b, HpF w.heap.size v3 b → HpF w.heap.size (.slice (some ⟨g, 0, none⟩) (t.length + 1) vc) b) →
       ∃ hs2 mg2 ls2 v2, AbvB w w3 w.heap.size K (above qs (K.ms.map (List.map MOp.o))) T v2 (.slice av (mg.length + 1) cv) hs2 mg2 ls2) := by
      intro w3 v3 hs' b1 b2 b3 b4 b5
      have hnewF : ∀ b, HpF w.heap.size (.slice (some ⟨g, 0, none⟩) (t.length + 1) vc) b → w.heap.size ≤ b := R.new
      refine ⟨hs', mg ++ [m], ls', v3, b1, b3, ?_, ?_, ?_, ?_, ?_, ?_, ?_, fun b hb => hnewF b (b5 b hb), hbn, ?_⟩
      ·refine List.Perm.trans ?_ hp1
       rcases b2 with ⟨c1, c2⟩ | ⟨c1, c2⟩
       ·rw [if_pos (hrest.2 c1), List.append_nil]
        exact c2.map _
       ·rw [if_neg (fun e => by have := hrest.1 e; omega)]
        have e : x.next.ops = rest.map MOp.o := by
         unfold Ln.ops Ln.next
         rw [hms]; rfl
        refine (c2.map Ln.ops).trans ?_
        rw [List.map_cons, e]
        exact (List.perm_append_singleton _ _).symm
      ·intro r hr
       rw [List.map_append, List.append_assoc]
       exact R.merged _ (hp2 r hr)
      ·rw [List.length_append, opsCells_append]
       refine ownsRow_kept hown' b4 (fun b hb hf => ?_)
       rcases hf with rfl | hf
       ·exact own_ne hown' H2.box (by decide) hb
       ·have e : b = g := by simpa [Value.ownBlock] using hf.symm
        subst e
        have hg2 : w2.heap[b]? = some (.cells cur 139 (0, 0)) := k2.heap hg (fun hm => own_ne R.row hg (by decide) hm)
        exact own_ne hown' hg2 (by decide) hb
      ·have := R.len
       rcases b2 with ⟨c1, c2⟩ | ⟨c1, c2⟩
       ·rw [c2.length_eq]; simp at this; omega
       ·rw [c2.length_eq]; simpa using this
      ·intro y hy
       rcases b2 with ⟨c1, c2⟩ | ⟨c1, c2⟩
       ·exact R.of y (by simp [c2.mem_iff.1 hy])
       ·rcases List.mem_cons.1 (c2.mem_iff.1 hy) with rfl | h1
        ·exact (R.of x (by simp)).next
        ·exact R.of y (by simp [h1])
      ·intro q hq
       rcases List.mem_append.1 hq with hq | hq
       ·exact R.mof q hq
       ·rw [List.mem_singleton.1 hq]
        exact (R.of x (by simp)).2 m (by rw [hms]; simp)
      ·rw [List.length_append]
       rcases b2 with ⟨c1, c2⟩ | ⟨c1, c2⟩
       ·rw [sum_perm (c2.map _)]
        rw [hms] at c1
        simp at c1
        subst c1
        simp at htot ⊢
        omega
       ·rw [sum_perm (c2.map _), List.map_cons, List.sum_cons]
        have e : x.next.ms.length = rest.length := by
         unfold Ln.next
         rw [hms]; rfl
        rw [e]
        simp
        omega
      ·refine (R.kept.trans k2 (fun i hi hm => ?_)).trans b4 (fun i hi hf => ?_)
       ·have := R.mnew i hm
        omega
       ·have := hnewF i hf
        omega
     rw [hW] at hr
     have hrl : (0 : Int) < (rest.length : Int) + 1 := by omega
     have htll : (0 : Int) < (t.length : Int) + 1 := by omega
     have HTOT : Hid (mg.length + 1 ≤ T) := by
      show _ ≤ _
      omega
     have d5 : w2.cell? ⟨w.heap.size, 0, none⟩ = some (.slice (some ⟨g, 0, none⟩) (t.length + 1) vc) := H2.cell
     clear R hg hcur hL hms hkW hnb hown' hkp hblk k2 H2 hbn hp1 hp2 hrest hW hi0 hz0 hzs hzb htot
     go_wp2_with (first | (at_builtin; refine Lib.wpList_append_run _ rfl _ _ _ _ rfl _ _ rfl rfl _ _ (hr _) ?_) | fail)
     refine htf.mono ?_
     rintro e3 w3 ⟨rfl, v3, hs', b1, b2, b3, b4, b5⟩
     have R2 : Hid _ := hfin.out w3 v3 hs' b1 b2 b3 b4 b5
     clear hfin htf b1 b2 b3 b4 b5
     go_wp2
     go_roundw
     case rel => exact R2
     case measure =>
      have := HTOT.out
      simp only [vlen]
      omega
theorem packet_mop (N : Nat) (m : MOp) (w : World) (h : RightOp N m.o) (hs : SeenAt w m) :
  Calls Tryz.prog 55 #[.agg #[.int .u8 m.o.kind, .int .u8 m.o.peer, .int .u32 m.o.num, .int .u32 m.o.clock, .slice (some ⟨m.g, 0, none⟩) m.o.seen.length m.cap, .int .u32 m.o.nclock, .int .u8 m.o.npeer, .int .i32 m.o.char]] w fun e' w' => e' = .returned (.string ⟨m.o.packet.toArray⟩) ∧ Kept (fun _ => False) w w' := by
 obtain ⟨cur, h1, h2⟩ := hs
 have hg := h.group
 have hp := h.peer
 have hnm := h.name
 have hch : m.o.char ≤ 1114111 := by
  have := h.char
  split at this <;> omega
 have hk : m.o.kind = 1 ∨ m.o.kind = 2 := by unfold Ope.kind; split <;> simp
 exact packet_any m.o.kind m.o.peer m.o.num m.o.clock m.o.seen m.g m.cap m.o.nclock m.o.npeer m.o.char w hk (by omega) h.num.2 h.clock.2 hnm.1 (by omega) hch (by rw [h.seen]; exact hg) h.fits (fun i x hx => by rw [Lib.cell_of_heap h1]; exact h2 i x hx)
def strsOf (l : List Ope) : List Value := l.map fun o => .string ⟨o.packet.toArray⟩
theorem info_str' : (Tryz.prog.info? 9).map (fun i => (i.zero, i.size, i.bytes)) = some (some (.string ⟨#[]⟩), 1, 16) := by kernel_rfl
set_option maxHeartbeats 2000000 in
set_option maxRecDepth 100000 in
theorem rest_all (s : Pr) (N bp : Nat) (F : Nat → Prop) (qs : List Nat) (gq cq : Nat) (w : World) (h : PM w bp s F) (hf : Fit N s) (hN : N ≤ 8) (hql : qs.length = N)
  (hq : ∀ (i n : Nat), qs[i]? = some n → w.cell? ⟨gq, i, none⟩ = some (.int .i64 (n : Int))) :
  Calls Tryz.prog 36 #[.pointer (some ⟨bp, 0, none⟩), .slice (some ⟨gq, 0, none⟩) N cq] w fun e' w' => ∃ pv, e' = .returned (.tuple #[pv, .int .i64 0]) ∧ ∃ ops, Merged (above qs s.log) ops ∧ w'.ownsRow 0 9 1 pv ops.length (strsOf ops) ∧ Kept (fun _ => False) w w' ∧ (∀ b, pv.ownBlock = some b → w.heap.size ≤ b) ∧ ∀ o ∈ ops, RightOp N o := by
 obtain ⟨bk, rv, hv, ms, P, H, ho, rfl⟩ := h
 obtain ⟨c0, c1, c2, c3, c4⟩ := P.cells
 have hbw := lt_of_heap P.block
 have hk := hf.len
 have hab := above_all bp 2 s.known.length bk s.known qs gq cq w c2 P.log (by omega) (by omega) hq hf.known
 have hpe := hPeers_any bp 2 s.known.length s.known.length _ w c2
 have hct := intContains_none qs (some ⟨gq, 0, none⟩) cq w (fun _ => ⟨gq, rfl, hq⟩) (by omega)
 rw [P.ops, hql] at hab
 rw [hql] at hct
 rw [hk] at hpe c2
 have hRO : ∀ m, (∃ r ∈ bk.ms, m ∈ r) → RightOp N m.o ∧ SeenAt w m := fun m ⟨r, hr, hm⟩ => by
  refine ⟨hf.log (r.map MOp.o) ?_ m.o (List.mem_map_of_mem hm), P.log.seen r hr m hm⟩
  rw [← P.ops]
  exact List.mem_map_of_mem hr
 have HRO : Hid _ := hRO
 clear hRO hq H ho hf P c0 c1 c3 c4 hk hql
 go_enter Tryz.func36, Tryz.ntmps36
 go_wp2_with fail
 refine hpe.mono ?_
 rintro e1 w1 ⟨rfl, hw1⟩
 rw [hw1]
 clear hw1 hpe
 go_wp2_with fail
 refine hct.mono ?_
 rintro e2 w2 ⟨rfl, hw2⟩
 rw [hw2]
 clear hw2 hct
 go_wp2_with fail
 refine hab.mono ?_
 rintro e3 w3 ⟨v, os, rfl, hrow, hmg, hof, hk3, hnew, hol⟩
 obtain ⟨va, vc, hve, _, _⟩ := own_slice hrow
 subst hve
 clear hab
 have HM : Hid (Merged (above qs s.log) (os.map MOp.o) ∧ ∀ m ∈ os, ∃ r ∈ bk.ms, m ∈ r) := ⟨hmg, hof⟩
 have HR : Hid (w3.ownsRow 0 115 8 (.slice va os.length vc) os.length (opsCells os)) := hrow
 clear hmg hof hrow
 go_wp2
 go_loopw [6, 30] (fun pv iv wr => ∃ k : Nat, k ≤ os.length ∧ iv = .int .i64 k ∧ Hid (wr.ownsRow 0 9 1 pv k (strsOf ((os.take k).map MOp.o)) ∧ Kept (fun _ => False) w3 wr ∧ ∀ b, pv.ownBlock = some b → w3.heap.size ≤ b)) (fun _ iv _ => os.length - (intOf iv).toNat)
 case atStart => exact ⟨0, Nat.zero_le _, rfl, World.ownsRow_nil _ _ _ _, Kept.refl _ _, fun b hb => by simp [Value.ownBlock] at hb⟩
 case round =>
  obtain ⟨k, hk, rfl, R⟩ := hrel
  obtain ⟨R1, R2, R3⟩ := R.out
  obtain ⟨pa, pc, hpe, _, _⟩ := own_slice R1
  subst hpe
  by_cases hlt : k < os.length
  ·have hlt2 : (k : Int) < (os.length : Int) := by omega
   obtain ⟨m, hm⟩ : ∃ m, os[k]? = some m := ⟨_, List.getElem?_eq_getElem hlt⟩
   obtain ⟨g, rfl, cell⟩ : ∃ g, va = some ⟨g, 0, none⟩ ∧ ∀ (j : Nat) (u : Value), m.cells[j]? = some u → wr.cell? ⟨g, k * 8 + j, none⟩ = some u := by
    rcases HR.out.2 with ⟨_, h0⟩ | ⟨g, cap, cur, e1, _, e3, e4, e5, e6, e7⟩
    ·omega
    ·injection e1 with e1 e2 e3'
     refine ⟨g, e1, fun j u hu => ?_⟩
     have hj8 : j < 8 := by
      have := (List.getElem?_eq_some_iff.1 hu).1
      simpa [MOp.cells] using this
     have h4 := opsCells_at os k m hm j hj8
     rw [hu, ← e7, List.getElem?_take] at h4
     split at h4
     ·rw [Lib.cell_of_heap (R2.heap e3 (fun h => h)), ← Array.getElem?_toList]
      exact h4
     ·cases h4
   have x0 := cell 0 _ rfl
   have x1 := cell 1 _ rfl
   have x2 := cell 2 _ rfl
   have x3 := cell 3 _ rfl
   have x4 := cell 4 _ rfl
   have x5 := cell 5 _ rfl
   have x6 := cell 6 _ rfl
   have x7 := cell 7 _ rfl
   simp only [Nat.add_zero] at x0
   have xz := World.block_lt_of_cell? wr _ x0
   obtain ⟨hro, hse⟩ := HRO.out m (HM.out.2 m (List.mem_of_getElem? hm))
   obtain ⟨W, hW⟩ : ∃ W, W = wr.alloc (.cells #[.int .u8 m.o.kind, .int .u8 m.o.peer, .int .u32 m.o.num, .int .u32 m.o.clock, .slice (some ⟨m.g, 0, none⟩) m.o.seen.length m.cap, .int .u32 m.o.nclock, .int .u8 m.o.npeer, .int .i32 m.o.char] 115) := ⟨_, rfl⟩
   have hkW : Kept (fun _ => False) wr W := by rw [hW]; exact (Kept.refl _ wr).alloc _
   have hpk := packet_mop N m W hro (hse.keep ((hk3.trans' R2).trans' hkW) (fun h => h))
   rw [hW] at hpk
   have HW : Hid _ := hW
   clear hW cell hro hse
   obtain ⟨S, hS⟩ : ∃ S : ByteArray, (⟨m.o.packet.toArray⟩ : ByteArray) = S := ⟨_, rfl⟩
   rw [hS] at hpk
   go_wp2_with fail
   refine hpk.mono ?_
   rintro e4 w4 ⟨rfl, hk4⟩
   rw [← HW.out] at hk4
   have hKr : Kept (fun _ => False) wr w4 := hkW.trans' hk4
   obtain ⟨i0, hi0, hz0, hzs, hzb⟩ := info_parts info_str'
   have hkA : Kept (fun _ => False) w4 (w4.alloc (.cells #[.string S] 9)) := (Kept.refl _ w4).alloc _
   have hnb : (w4.alloc (.cells #[.string S] 9)).heap[w4.heap.size]? = some (.cells #[.string S] 9 (0, 0)) := heap_alloc_new w4 _
   obtain ⟨v', w5, hr, hown', hkp, hblk⟩ := append_strong Tryz.prog _ 27 27 9 i0 _ 1 16 Tryz.underlying27 hi0 hz0 hzs hzb rfl (by decide) (.slice pa k pc) k _ (ownsRow_kept R1 (hKr.trans' hkA) (fun _ _ h => h)) (.slice (some ⟨w4.heap.size, 0, none⟩) 1 1) 1 [.string S]
    (Src.ofSlice _ Tryz.underlying27 ⟨w4.heap.size, 0, none⟩ 1 1 _ rfl (fun j u hj => by rw [Addr.add_lit, Lib.cell_of_heap hnb]; simpa using hj) (fun u hu => by simp at hu; subst hu; rfl)) (by decide) (by unfold maxLen; omega) (by omega)
   have R4 : Hid (w5.ownsRow 0 9 1 v' (k + 1) (strsOf ((os.take (k + 1)).map MOp.o)) ∧ Kept (fun _ => False) w3 w5 ∧ ∀ b, v'.ownBlock = some b → w3.heap.size ≤ b) := by
    refine ⟨?_, ?_, fun b hb => ?_⟩
    ·have e : strsOf ((os.take (k + 1)).map MOp.o) = strsOf ((os.take k).map MOp.o) ++ [.string S] := by
      rw [List.take_succ_eq_append_getElem hlt, (List.getElem?_eq_some_iff.1 hm).2, ← hS]
      simp [strsOf]
     rw [e]; exact hown'
    ·refine ((R2.trans' hKr).trans' hkA).trans hkp (fun i hi hb => ?_)
     have := R3 i hb
     omega
    ·rcases hblk b hb with h1 | h1
     ·exact R3 b h1
     ·exact Nat.le_trans R2.size (Nat.le_trans hKr.size (Nat.le_trans hkA.size h1))
   clear hown' hkp hblk hnb hkA hKr hk4 hkW HW R R1 R2 R3 hpk x0 x1 x2 x3 x4 x5 x6 x7 hi0 hz0 hzs hzb hm hS
   go_wp2_with (at_builtin; refine Lib.wpList_append_run _ rfl _ _ _ _ rfl _ _ rfl rfl _ _ (hr _) ?_)
   go_roundw
   case rel => exact ⟨k + 1, by omega, by go_num, R4⟩
   case measure => simp [intOf]; omega
  ·have hlt2 : ¬ (k : Int) < (os.length : Int) := by omega
   have hlt3 : decide ((k : Int) < (os.length : Int)) = false := by rw [decide_eq_false_iff_not]; exact hlt2
   obtain rfl : k = os.length := by omega
   go_wp2
   go_ret2
   refine ⟨_, rfl, os.map MOp.o, HM.out.1, ?_, hk3.trans' R2, fun b hb => Nat.le_trans hk3.size (R3 b hb), fun o ho => ?_⟩
   ·rw [List.length_map]
    rw [List.take_length] at R1
    exact R1
   ·obtain ⟨m, hm, rfl⟩ := List.mem_map.1 ho
    exact (HRO.out m (HM.out.2 m hm)).1
set_option maxHeartbeats 1000000 in
theorem intIndexFunc_neg (l : List Int) (g : Nat) (cp : Nat) (w : World) (he : ∀ (i : Nat) (n : Int), l[i]? = some n → w.cell? ⟨g, i, none⟩ = some (.int .i64 n)) (hn : l.length ≤ 4294967296) (hx : ∃ n ∈ l, n < 0) :
  Calls Tryz.prog 69 #[.slice (some ⟨g, 0, none⟩) l.length cp, .func (.func 53) #[] #[]] w fun e' w' => ∃ k : Nat, e' = .returned (.int .i64 (k : Int)) ∧ w' = w := by
 go_enter Tryz.func69, Tryz.ntmps69
 go_wp2
 go_loopw [8] (fun i wr => ∃ k : Nat, k ≤ l.length ∧ i = .int .i64 k ∧ wr = w ∧ Hid (∃ n ∈ l.drop k, n < 0)) (fun i _ => l.length - (intOf i).toNat)
 case atStart => exact ⟨0, Nat.zero_le _, rfl, rfl, hx⟩
 case round =>
  clear hx
  obtain ⟨k, hk, rfl, hw, hx⟩ := hrel
  subst hw
  have hlt : k < l.length := by
   obtain ⟨n, h1, _⟩ := hx.out
   have := List.length_pos_of_mem h1
   rw [List.length_drop] at this
   omega
  obtain ⟨m, hek⟩ : ∃ m, l[k]? = some m := ⟨_, List.getElem?_eq_getElem hlt⟩
  have c0 := he k m hek
  have cz := World.block_lt_of_cell? wr _ c0
  by_cases hm : m < 0
  ·have hmd : decide (m < 0) = true := by rw [decide_eq_true_eq]; exact hm
   clear hek he hx
   go_wp2_with fail
   refine (belowNone_any m wr).mono ?_
   rintro e' w' ⟨rfl, rfl⟩
   go_wp2
   go_ret
   exact ⟨k, rfl, rfl⟩
  ·have hmd : decide (m < 0) = false := by rw [decide_eq_false_iff_not]; exact hm
   have hx2 : Hid (∃ n ∈ l.drop (k + 1), n < 0) := by
    obtain ⟨n, h1, h2⟩ := hx.out
    rw [List.drop_eq_getElem_cons hlt, (List.getElem?_eq_some_iff.1 hek).2] at h1
    rcases List.mem_cons.1 h1 with h1 | h1
    ·omega
    ·exact ⟨n, h1, h2⟩
   clear hek he hx
   go_wp2_with fail
   refine (belowNone_any m wr).mono ?_
   rintro e' w' ⟨rfl, rfl⟩
   go_wp2
   go_roundw
   case rel => exact ⟨k + 1, by omega, by go_num, trivial, hx2⟩
   case measure => simp [intOf]; omega
set_option maxHeartbeats 1000000 in
theorem intContains_neg (l : List Int) (g : Nat) (cp : Nat) (w : World) (he : ∀ (i : Nat) (n : Int), l[i]? = some n → w.cell? ⟨g, i, none⟩ = some (.int .i64 n)) (hn : l.length ≤ 4294967296) (hx : ∃ n ∈ l, n < 0) :
  Calls Tryz.prog 52 #[.slice (some ⟨g, 0, none⟩) l.length cp, .func (.func 53) #[] #[]] w fun e' w' => e' = .returned (.bool true) ∧ w' = w := by
 go_enter Tryz.func52, Tryz.ntmps52
 go_wp2_with fail
 refine (intIndexFunc_neg l g cp w he hn hx).mono ?_
 rintro e' w' ⟨k, rfl, rfl⟩
 have hk : (0 : Int) ≤ (k : Int) := by omega
 have hk2 : decide ((0 : Int) ≤ (k : Int)) = true := by rw [decide_eq_true_eq]; exact hk
 go_wp2
 go_ret
 exact ⟨by simp, rfl⟩
set_option maxHeartbeats 1000000 in
theorem rest_len (s : Pr) (N bp : Nat) (F : Nat → Prop) (a : Option Addr) (n c : Nat) (w : World) (h : PM w bp s F) (hf : Fit N s) (hn : n ≠ N) (hn2 : n ≤ 4294967296) :
  Calls Tryz.prog 36 #[.pointer (some ⟨bp, 0, none⟩), .slice a n c] w fun e' w' => e' = .returned (.tuple #[.slice none 0 0, .int .i64 1]) ∧ w' = w := by
 obtain ⟨bk, rv, hv, ms, P, H, ho, rfl⟩ := h
 obtain ⟨c0, c1, c2, c3, c4⟩ := P.cells
 have hbw := lt_of_heap P.block
 have hk := hf.len
 have h8 := hf.n8
 have hpe := hPeers_any bp 2 s.known.length s.known.length _ w c2
 rw [hk] at hpe c2
 have hne : ((n : Int) == (N : Int)) = false := by rw [beq_eq_false_iff_ne]; omega
 have hne2 : ¬ (n : Int) = (N : Int) := by omega
 clear H ho hf P c0 c1 c3 c4 hk
 go_enter Tryz.func36, Tryz.ntmps36
 go_wp2_with fail
 refine hpe.mono ?_
 rintro e1 w1 ⟨rfl, hw1⟩
 rw [hw1]
 clear hw1 hpe
 go_wp2
 go_ret2
 exact ⟨rfl, rfl⟩
set_option maxHeartbeats 1000000 in
theorem rest_neg (s : Pr) (N bp : Nat) (F : Nat → Prop) (l : List Int) (g c : Nat) (w : World) (h : PM w bp s F) (hf : Fit N s) (hn : l.length = N) (hx : ∃ n ∈ l, n < 0) (he : ∀ (i : Nat) (n : Int), l[i]? = some n → w.cell? ⟨g, i, none⟩ = some (.int .i64 n)) :
  Calls Tryz.prog 36 #[.pointer (some ⟨bp, 0, none⟩), .slice (some ⟨g, 0, none⟩) N c] w fun e' w' => e' = .returned (.tuple #[.slice none 0 0, .int .i64 1]) ∧ w' = w := by
 obtain ⟨bk, rv, hv, ms, P, H, ho, rfl⟩ := h
 obtain ⟨c0, c1, c2, c3, c4⟩ := P.cells
 have hbw := lt_of_heap P.block
 have hk := hf.len
 have h8 := hf.n8
 have hpe := hPeers_any bp 2 s.known.length s.known.length _ w c2
 rw [hk] at hpe c2
 have hct := intContains_neg l g c w he (by omega) hx
 rw [hn] at hct
 clear H ho hf P c0 c1 c3 c4 hk he hx
 go_enter Tryz.func36, Tryz.ntmps36
 go_wp2_with fail
 refine hpe.mono ?_
 rintro e1 w1 ⟨rfl, hw1⟩
 rw [hw1]
 clear hw1 hpe
 go_wp2_with fail
 refine hct.mono ?_
 rintro e2 w2 ⟨rfl, hw2⟩
 rw [hw2]
 clear hw2 hct
 go_wp2
 go_ret2
 exact ⟨rfl, rfl⟩
end Go.Proofs.YtgfafbanahiigaaGreat
