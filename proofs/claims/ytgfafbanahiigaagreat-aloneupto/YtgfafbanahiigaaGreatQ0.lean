import Derived.Test.YtgfafbanahiigaaGreatLI
import Derived.ProofKit
import Derived.OpenShut
import Derived.ShutString
import Derived.ChangeOld
import Derived.Below
import Derived.JoinedCond
import Derived.Deep.Slices
set_option linter.unusedVariables false
set_option linter.unusedSimpArgs false
namespace Go.Proofs.YtgfafbanahiigaaGreat
open Go.ChangeShapes Go.WideShapes Go.ChangeAt Go.RowKit Go.Chorus Go.Deep
theorem own : ownKnob Tryz.prog.godebug = none := by kernel_rfl
theorem laidOut : laidOutB Tryz.prog = true := by kernel_rfl
theorem cellsOp : Tryz.prog.cellsOf 36 = 6 := by kernel_rfl
theorem cellsInt : Tryz.prog.cellsOf 3 = 1 := by kernel_rfl
theorem cellsStr : Tryz.prog.cellsOf 9 = 1 := by kernel_rfl
theorem cellsInts : Tryz.prog.cellsOf 30 = 1 := by kernel_rfl
theorem cellsStrs : Tryz.prog.cellsOf 27 = 1 := by kernel_rfl
theorem bulk_one {H : Type} (d : DataW H) : 1 ≤ Rows.uptoBulk d := by
 cases d with
 | lit l => cases l <;> simp [Rows.uptoBulk]
 | nil => simp [Rows.uptoBulk]
 | ptr d => simp [Rows.uptoBulk]
 | slice elems spare => simp [Rows.uptoBulk]
 | agg parts => simp [Rows.uptoBulk]
 | iface t d => simp [Rows.uptoBulk]
 | map entries => simp [Rows.uptoBulk]
 | held h => simp [Rows.uptoBulk]
theorem bulk_len {H : Type} (l : List (DataW H)) : l.length ≤ Rows.uptoBulkAll l := by
 induction l with
 | nil => simp [Rows.uptoBulkAll]
 | cons x r ih => have := bulk_one x; simp only [Rows.uptoBulkAll, List.length_cons]; omega
theorem bulk_slice {H : Type} (elems spare : List (DataW H)) : Rows.uptoBulkAll elems + 1 ≤ Rows.uptoBulk (.slice elems spare) := by
 simp only [Rows.uptoBulk]
 omega
section
variable {H : Type} {enc : TypeId × Value → H} {W : World}
theorem ints_of {fuel : Nat} {v : Value} {x : DataW H × List MemPlace} (h : DataW.trod enc Tryz.prog W 0 (fun _ => true) true fuel 30 [v] = some x) :
  ∃ (a : Option Addr) (c : Nat) (ns : List Int), v = .slice a ns.length c ∧ (ns.length ≤ c ∧ c ≤ maxLen) ∧ IntsG W a ns ∧ (∀ n ∈ ns, i64r n) ∧ (0 < ns.length → ∀ ad, a = some ad → ad.block < W.heap.size) ∧ ns.length + 1 ≤ Rows.uptoBulk x.1 := by
 rcases open_slice1 Tryz.underlying30 cellsInt h with ⟨hcs, rfl⟩ | ⟨a, len, cap, m, n, V, D, Pl, hcs, _, hl, hm, hmm, rfl, hcell⟩
 ·simp at hcs
  exact ⟨none, 0, [], hcs, ⟨Nat.le_refl _, Nat.zero_le _⟩, fun i n hi => (by simp at hi), fun n hn => (by cases hn), fun h0 => absurd h0 (Nat.lt_irrefl _), by simp [Rows.uptoBulk]⟩
 ·simp at hcs
  have hlm : len ≤ m := by rw [hmm]; simp; omega
  have key : ∀ i, i < len → ∃ n : Int, V i = .int .i64 n ∧ i64r n := fun i hi => by
   obtain ⟨_, ht⟩ := hcell i (by omega)
   obtain ⟨n, h1, _, h2⟩ := DataW.trod_int Tryz.underlying3 ht
   simp at h1
   refine ⟨n, h1, ?_⟩
   simpa [Lit.wf, IntKind.min, IntKind.max, IntKind.signed, IntKind.bits, i64r] using h2
  have hns : ∀ (i : Nat) (n : Int), ((List.range len).map fun i => intOf (V i))[i]? = some n → i < len ∧ V i = .int .i64 n ∧ i64r n := fun i n hi => by
   rw [List.getElem?_map] at hi
   cases hr : (List.range len)[i]? with
   | none => rw [hr] at hi; cases hi
   | some j =>
    rw [hr] at hi
    obtain ⟨hil, hij⟩ := List.getElem?_eq_some_iff.1 hr
    simp at hij hil
    subst hij
    obtain ⟨n', h1, h2⟩ := key i hil
    have h3 : intOf (V i) = n := by simpa using hi
    rw [h1] at h3
    have h4 : n' = n := h3
    subst h4
    exact ⟨hil, h1, h2⟩
  have hspot : 0 < len → a.spot = none := fun h0 => by
   have := World.cell?_spot (hcell 0 (by omega)).1
   simpa [Addr.add] using this
  refine ⟨some a, cap, (List.range len).map fun i => intOf (V i), by rw [List.length_map, List.length_range]; exact hcs, by rw [List.length_map, List.length_range]; exact ⟨hl, hm⟩, fun i n hi => ?_, fun n hn => ?_, fun h0 ad had => ?_, ?_⟩
  ·obtain ⟨h1, h2, h3⟩ := hns i n hi
   obtain ⟨b, off, spot⟩ := a
   obtain rfl : spot = none := hspot (by omega)
   refine ⟨b, off, rfl, ?_⟩
   have := (hcell i (by omega)).1
   rw [Addr.add_lit, h2] at this
   exact this
  ·obtain ⟨i, hi⟩ := List.getElem?_of_mem hn
   exact (hns i n hi).2.2
  ·cases had
   rw [List.length_map, List.length_range] at h0
   have := World.block_lt_of_cell? W _ (hcell 0 (by omega)).1
   exact this
  ·have h1 := bulk_slice ((List.range len).map D) ((List.range (m - len)).map fun j => D (len + j))
   have h2 := bulk_len ((List.range len).map D)
   rw [List.length_map, List.length_range] at h2 ⊢
   exact Nat.le_trans (Nat.succ_le_succ h2) h1
theorem strs_of {fuel : Nat} {v : Value} {x : DataW H × List MemPlace} (h : DataW.trod enc Tryz.prog W 0 (fun _ => true) true fuel 27 [v] = some x) :
  ∃ (a : Option Addr) (c : Nat) (ls : List (List UInt8)), v = .slice a ls.length c ∧ (ls.length ≤ c ∧ c ≤ maxLen) ∧ StrsG W a ls ∧ (0 < ls.length → ∀ ad, a = some ad → ad.block < W.heap.size) ∧ ls.length + 1 ≤ Rows.uptoBulk x.1 := by
 rcases open_slice1 Tryz.underlying27 cellsStr h with ⟨hcs, rfl⟩ | ⟨a, len, cap, m, n, V, D, Pl, hcs, _, hl, hm, hmm, rfl, hcell⟩
 ·simp at hcs
  exact ⟨none, 0, [], hcs, ⟨Nat.le_refl _, Nat.zero_le _⟩, fun i n hi => (by simp at hi), fun h0 => absurd h0 (Nat.lt_irrefl _), by simp [Rows.uptoBulk]⟩
 ·simp at hcs
  have hlm : len ≤ m := by rw [hmm]; simp; omega
  have key : ∀ i, i < len → ∃ s : ByteArray, V i = .string s := fun i hi => by
   obtain ⟨_, ht⟩ := hcell i (by omega)
   obtain ⟨s, h1, _, _⟩ := DataW.trod_string Tryz.underlying9 ht
   simp at h1
   exact ⟨s, h1⟩
  have hspot : 0 < len → a.spot = none := fun h0 => by
   have := World.cell?_spot (hcell 0 (by omega)).1
   simpa [Addr.add] using this
  refine ⟨some a, cap, (List.range len).map fun i => (match V i with | .string s => s.data.toList | _ => []), by rw [List.length_map, List.length_range]; exact hcs, by rw [List.length_map, List.length_range]; exact ⟨hl, hm⟩, fun i l hi => ?_, fun h0 ad had => ?_, ?_⟩
  ·rw [List.getElem?_map] at hi
   cases hr : (List.range len)[i]? with
   | none => rw [hr] at hi; cases hi
   | some j =>
    rw [hr] at hi
    obtain ⟨hil, hij⟩ := List.getElem?_eq_some_iff.1 hr
    simp at hij hil
    subst hij
    obtain ⟨s, h1⟩ := key i hil
    have h3 : s.data.toList = l := by
     simp only [Option.map_some, Option.some.injEq] at hi
     rw [h1] at hi
     exact hi
    obtain ⟨b, off, spot⟩ := a
    obtain rfl : spot = none := hspot (by omega)
    refine ⟨b, off, rfl, ?_⟩
    have := (hcell i (by omega)).1
    rw [Addr.add_lit, h1] at this
    rw [this, ← h3]
  ·cases had
   rw [List.length_map, List.length_range] at h0
   have := World.block_lt_of_cell? W _ (hcell 0 (by omega)).1
   exact this
  ·have h1 := bulk_slice ((List.range len).map D) ((List.range (m - len)).map fun j => D (len + j))
   have h2 := bulk_len ((List.range len).map D)
   rw [List.length_map, List.length_range] at h2 ⊢
   exact Nat.le_trans (Nat.succ_le_succ h2) h1
theorem fieldsOp : ∃ fs : Array Field, Tryz.prog.underlying 36 = some (.struct fs) ∧ fs.size = 6 ∧ (∀ j, j < 4 → (fs[j]?.map fun f => (f.type, f.offset)) = some (3, j)) ∧ (fs[4]?.map fun f => (f.type, f.offset)) = some (30, 4) ∧ (fs[5]?.map fun f => (f.type, f.offset)) = some (27, 5) := ⟨_, Tryz.underlying36, rfl, fun j hj => by
 match j, hj with
 | 0, _ => rfl
 | 1, _ => rfl
 | 2, _ => rfl
 | 3, _ => rfl, rfl, rfl⟩
theorem op_of {fuel : Nat} {cs : List Value} {x : DataW H × List MemPlace} (hcl : cs.length = 6) (h : DataW.trod enc Tryz.prog W 0 (fun _ => true) true fuel 36 cs = some x) :
  ∃ o : SOp, cs = o.cells ∧ o.Ok W ∧ 7 + (o.ns.length + o.ls.length) ≤ Rows.uptoBulk x.1 := by
 obtain ⟨fs, hu, hfs, hf4, hfL, hfS⟩ := fieldsOp
 obtain ⟨xs, n, _, hx, hl, hlen, hf⟩ := DataW.trod_struct hu h
 rw [hfs] at hlen
 have part : ∀ (j : Nat) (t : TypeId), j < 6 → Tryz.prog.cellsOf t = 1 → (fs[j]?.map fun f => (f.type, f.offset)) = some (t, j) → ∃ v y, cs[j]? = some v ∧ xs[j]? = some y ∧ DataW.trod enc Tryz.prog W 0 (fun _ => true) true n t [v] = some y := fun j t hj ht he => by
  obtain ⟨g0, hg0, e0⟩ := Option.map_eq_some_iff.1 he
  simp only [Prod.mk.injEq] at e0
  have h0 := hf j g0 hg0
  rw [e0.1, e0.2, ht] at h0
  have l0 : j < xs.length := by omega
  rw [List.getElem?_eq_getElem l0] at h0
  have lc : j < cs.length := by omega
  refine ⟨cs[j], xs[j], List.getElem?_eq_getElem lc, List.getElem?_eq_getElem l0, ?_⟩
  have h3 : (cs.drop j).take 1 = [cs[j]] := by
   rw [List.drop_eq_getElem_cons lc]; rfl
  rw [h3] at h0
  exact h0
 obtain ⟨v0, y0, c0, z0, t0⟩ := part 0 3 (by decide) cellsInt (hf4 0 (by decide))
 obtain ⟨v1, y1, c1, z1, t1⟩ := part 1 3 (by decide) cellsInt (hf4 1 (by decide))
 obtain ⟨v2, y2, c2, z2, t2⟩ := part 2 3 (by decide) cellsInt (hf4 2 (by decide))
 obtain ⟨v3, y3, c3, z3, t3⟩ := part 3 3 (by decide) cellsInt (hf4 3 (by decide))
 obtain ⟨v4, y4, c4, z4, t4⟩ := part 4 30 (by decide) cellsInts hfL
 obtain ⟨v5, y5, c5, z5, t5⟩ := part 5 27 (by decide) cellsStrs hfS
 have hint : ∀ (v : Value) (y : DataW H × List MemPlace), DataW.trod enc Tryz.prog W 0 (fun _ => true) true n 3 [v] = some y → ∃ k : Int, v = .int .i64 k ∧ i64r k := fun v y ht => by
  obtain ⟨k, h1, _, h2⟩ := DataW.trod_int Tryz.underlying3 ht
  simp at h1
  exact ⟨k, h1, by simpa [Lit.wf, IntKind.min, IntKind.max, IntKind.signed, IntKind.bits, i64r] using h2⟩
 obtain ⟨k0, rfl, r0⟩ := hint v0 y0 t0
 obtain ⟨k1, rfl, r1⟩ := hint v1 y1 t1
 obtain ⟨k2, rfl, r2⟩ := hint v2 y2 t2
 obtain ⟨k3, rfl, r3⟩ := hint v3 y3 t3
 obtain ⟨la, lc, ns, rfl, l1, l2, l3, l4, l5⟩ := ints_of t4
 obtain ⟨sa, sc, ls, rfl, s1, s2, s3, s4⟩ := strs_of t5
 refine ⟨⟨k0, k1, k2, k3, la, sa, ns, ls, lc, sc⟩, ?_, ⟨r1, r2, r3, r0, l1, s1, l2, s2, l3, l4, s3⟩, ?_⟩
 ·apply List.ext_getElem?
  intro i
  rcases i with _ | _ | _ | _ | _ | _ | i
  ·rw [c0]; rfl
  ·rw [c1]; rfl
  ·rw [c2]; rfl
  ·rw [c3]; rfl
  ·rw [c4]; rfl
  ·rw [c5]; rfl
  ·rw [List.getElem?_eq_none (by omega)]; rfl
 ·match xs, hlen, z4, z5, hx with
  | [a0, a1, a2, a3, a4, a5], _, z4, z5, hx =>
   simp at z4 z5
   subst z4 z5
   rw [hx]
   have b0 := bulk_one a0.1
   have b1 := bulk_one a1.1
   have b2 := bulk_one a2.1
   have b3 := bulk_one a3.1
   simp only [List.map_cons, List.map_nil, Rows.uptoBulk, Rows.uptoBulkAll]
   show 7 + (ns.length + ls.length) ≤ _
   omega
theorem wt_map (f : Nat → SOp) (D : Nat → DataW H) (l : List Nat) (h : ∀ i ∈ l, 7 + ((f i).ns.length + (f i).ls.length) ≤ Rows.uptoBulk (D i)) : wt (l.map f) ≤ Rows.uptoBulkAll (l.map D) := by
 induction l with
 | nil => simp [wt, Rows.uptoBulkAll]
 | cons x r ih =>
  have h1 := h x (by simp)
  have h2 := ih (fun i hi => h i (by simp [hi]))
  simp only [List.map_cons, wt, Rows.uptoBulkAll]
  omega
theorem script_of {v : Value} {d : DataW H} {p : List MemPlace} (h : DataW.Trod enc Tryz.prog W 0 (fun _ => true) true 22 v d p) :
  ∃ (a : Option Addr) (c : Nat) (os : List SOp), v.cells.toList = [.slice a os.length c] ∧ ScriptAt W a os ∧ wt os ≤ Rows.uptoBulk d := by
 obtain ⟨fuel, hf⟩ := h
 rcases open_slice Tryz.underlying22 hf with ⟨hcs, hx⟩ | ⟨a, len, cap, m, n, D, Pl, hcs, _, hl, hm, hmm, hx, hcell⟩
 ·exact ⟨none, 0, [], hcs, fun i o hi => (by simp at hi), by simp [wt]⟩
 ·have hlm : len ≤ m := by rw [hmm]; simp; omega
  haveI : Inhabited SOp := ⟨⟨0, 0, 0, 0, none, none, [], [], 0, 0⟩⟩
  obtain ⟨f, hfo⟩ := choose_lt (α := SOp) (p := fun i o => ∃ cs', W.cells? 0 (a.add (i * 6)) 6 = some cs' ∧ cs' = o.cells ∧ o.Ok W ∧ 7 + (o.ns.length + o.ls.length) ≤ Rows.uptoBulk (D i)) (n := len) (fun i hi => by
   obtain ⟨cs', h1, h2⟩ := hcell i (by omega)
   rw [cellsOp] at h1
   obtain ⟨_, hlen, _⟩ := World.cells?_some h1
   obtain ⟨o, h3, h4, h5⟩ := op_of hlen h2
   exact ⟨o, cs', h1, h3, h4, h5⟩)
  refine ⟨some a, cap, (List.range len).map f, by rw [List.length_map, List.length_range]; exact hcs, fun i o hi => ?_, ?_⟩
  ·rw [List.getElem?_map] at hi
   cases hr : (List.range len)[i]? with
   | none => rw [hr] at hi; cases hi
   | some j =>
    rw [hr] at hi
    obtain ⟨hil, hij⟩ := List.getElem?_eq_some_iff.1 hr
    simp at hij hil
    subst hij
    simp at hi
    subst hi
    obtain ⟨cs', h1, h2, h3, _⟩ := hfo i hil
    obtain ⟨_, hlen, hcells⟩ := World.cells?_some h1
    refine ⟨h3, ?_⟩
    have key : ∀ (j : Nat) (u : Value), (f i).cells[j]? = some u → W.cell? ((a.add (i * 6)).add j) = some u := fun j u hj => by
     rw [← h2] at hj
     have hjl := (List.getElem?_eq_some_iff.1 hj).1
     exact (hcells j (by omega)).trans hj
    have hspot : a.spot = none := by
     obtain ⟨cs0, g1, g2, _, _⟩ := hfo 0 (by omega)
     obtain ⟨_, glen, gcells⟩ := World.cells?_some g1
     have g3 : W.cell? ((a.add (0 * 6)).add 0) = some (.int .i64 (f 0).kind) := (gcells 0 (by omega)).trans (by rw [g2]; rfl)
     have := World.cell?_spot g3
     simpa [Addr.add] using this
    obtain ⟨b, off, spot⟩ := a
    obtain rfl : spot = none := hspot
    refine ⟨b, off, rfl, fun j u hj => ?_⟩
    have := key j u hj
    rw [Addr.add_lit, Addr.add_lit] at this
    exact this
  ·have h1 := wt_map f D (List.range len) (fun i hi => (by
    obtain ⟨_, _, _, _, h4⟩ := hfo i (List.mem_range.1 hi)
    exact h4))
   have h2 : d = .slice ((List.range len).map D) ((List.range (m - len)).map fun j => D (len + j)) := by
    have := congrArg Prod.fst hx
    exact this
   rw [h2]
   have h3 := bulk_slice ((List.range len).map D) ((List.range (m - len)).map fun j => D (len + j))
   omega
end
end Go.Proofs.YtgfafbanahiigaaGreat
