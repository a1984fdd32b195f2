import Derived.Deep.CutBlock
import Derived.Test.YtgfafbanahiigaaGreatNH
import Derived.Test.YtgfafbanahiigaaGreatV4
import Derived.Test.YtgfafbanahiigaaGreatRV
set_option linter.unusedVariables false
set_option linter.unusedSimpArgs false
namespace Go.Proofs.YtgfafbanahiigaaGreat
open Go.RowKit Go.Chorus
theorem readBE_snoc (l : List UInt8) (b : UInt8) : readBE (l ++ [b]) = 256 * readBE l + b.toNat := by
 unfold readBE
 rw [List.foldl_append]; rfl
theorem readBE_take (l : List UInt8) (k : Nat) (b : UInt8) (h : l[k]? = some b) : readBE (l.take (k + 1)) = 256 * readBE (l.take k) + b.toNat := by
 have hk : k < l.length := (List.getElem?_eq_some_iff.1 h).1
 have he : l[k] = b := (List.getElem?_eq_some_iff.1 h).2
 rw [List.take_succ_eq_append_getElem hk, he, readBE_snoc]
theorem readBE_le (l : List UInt8) : ∀ k, k ≤ 4 → readBE (l.take k) < 256 ^ k := by
 intro k
 induction k with
 | zero => intro _; simp [readBE]
 | succ k ih =>
  intro hk
  have h1 := ih (by omega)
  by_cases hl : k < l.length
  ·rw [readBE_take l k l[k] (List.getElem?_eq_getElem hl), Nat.pow_succ]
   have := UInt8.toNat_lt l[k]
   omega
  ·rw [List.take_of_length_le (by omega)]
   rw [List.take_of_length_le (by omega)] at h1
   rw [Nat.pow_succ]
   omega
set_option maxHeartbeats 1000000 in
theorem rread_any (S : ByteArray) (w : World) (hs : S.size ≤ 4) :
  Calls Tryz.prog 92 #[.string S] w fun e' w' => e' = .returned (.int .i64 (readBE S.data.toList : Nat)) ∧ w' = w := by
 obtain ⟨l, hl⟩ : ∃ l, S.data.toList = l := ⟨_, rfl⟩
 have hsz : S.size = l.length := by rw [← hl, Array.length_toList]; rfl
 have HSZ : Hid (S.size = l.length) := hsz
 have HL : Hid (S.data.toList = l) := hl
 rw [hl]
 clear hl hsz
 go_enter Tryz.func92, Tryz.ntmps92
 go_wp2
 go_loop [3, 4] (fun s i => ∃ k : Nat, k ≤ S.size ∧ i = .int .i64 k ∧ s = .int .i64 (readBE (l.take k) : Nat)) (fun _ i => S.size - (intOf i).toNat)
 case atStart => exact ⟨0, Nat.zero_le _, rfl, rfl⟩
 case round =>
  obtain ⟨k, hk, rfl, rfl⟩ := hrel
  have hle := readBE_le l k (by omega)
  have hp : 256 ^ k ≤ 4294967296 := by
   have : k = 0 ∨ k = 1 ∨ k = 2 ∨ k = 3 ∨ k = 4 := by omega
   rcases this with rfl | rfl | rfl | rfl | rfl <;> decide
  have hb1 : (readBE (l.take k) : Int) ≤ 4294967296 := by omega
  by_cases hlt : k < S.size
  ·have hlt2 : (k : Int) < (S.size : Int) := by omega
   have hll : k < l.length := by rw [← HSZ.out]; exact hlt
   have hidx : Hid (S[k] = l[k]) := by
    show S.data[k] = _
    have h1 := HL.out
    subst h1
    simp
   have hs2 : Hid _ := readBE_take l k l[k] (List.getElem?_eq_getElem hll)
   clear hle hp
   go_wp2
   go_round
   case rel =>
    refine ⟨k + 1, by omega, by go_num, ?_⟩
    rw [hs2.out]
    simp only [hidx.out]
    have hb := UInt8.toNat_lt l[k]
    congr 1
    unfold wrap64
    omega
   case measure => simp [intOf]; omega
  ·have hlt2 : ¬ (k : Int) < (S.size : Int) := by omega
   have hke : k = l.length := by rw [← HSZ.out]; omega
   clear hle hp
   go_wp2
   go_ret
   subst hke
   exact ⟨ret_int (by simp), rfl⟩
theorem extract_rd4 (l : List UInt8) (i : Nat) : readBE ((⟨l.toArray⟩ : ByteArray).extract i (i + 4)).data.toList = rd4 l i := by
 rw [ByteArray.data_extract]
 unfold rd4
 simp
theorem extract_size (S : ByteArray) (i j : Nat) : (S.extract i j).size ≤ j - i := by
 rw [ByteArray.size_extract]
 omega
def zeroOp : Array Value := #[.bool false, .int .i64 0, .int .i64 0, .int .i64 0, .slice none 0 0, .int .i64 0, .int .i64 0, .int .i64 0, .string ⟨#[]⟩]
structure RdSt (w wr : World) (b : Nat) (cs : Array Value) : Prop where
 res : wr.heap[w.heap.size]? = some (.cells zeroOp 119 (0, 0))
 box : wr.heap[b]? = some (.cells cs 119 (0, 0))
 hb : w.heap.size < b
 kept : Kept (fun _ => False) w wr
theorem RdSt.quiet {w wr w' : World} {b : Nat} {cs : Array Value} (h : RdSt w wr b cs) (k : Kept (fun _ => False) wr w') : RdSt w w' b cs :=
 ⟨k.heap h.res (fun h => h), k.heap h.box (fun h => h), h.hb, h.kept.trans' k⟩
theorem RdSt.set {w wr w' : World} {b : Nat} {cs : Array Value} (h : RdSt w wr b cs) (k : Kept (fun x => w.heap.size < x ∧ x ≠ b) wr w') (j : Nat) (v : Value) : RdSt w (w'.setCell ⟨b, j, none⟩ v) b (cs.setIfInBounds j v) := by
 have hb1 := k.heap h.box (fun h => h.2 rfl)
 have hr1 := k.heap h.res (fun h => Nat.lt_irrefl _ h.1)
 have k1 : Kept (fun x => x = b) w' (w'.setCell ⟨b, j, none⟩ v) := Kept.setCell (S := fun x => x = b) (Kept.refl _ w') (p := ⟨b, j, none⟩) (fun _ => rfl) _
 have hb := h.hb
 refine ⟨k1.heap hr1 (fun e => by omega), heap_set_same hb1 _ _, hb, ?_⟩
 exact (h.kept.trans k (fun x hx hh => by omega)).trans k1 (fun x hx hh => by omega)
theorem rd1_lt (l : List UInt8) (i : Nat) : rd1 l i < 256 := UInt8.toNat_lt _
theorem str_index (l : List UInt8) (k : Nat) (hk : k < l.length) (w : World) : (Instr.index 9 (.string ⟨l.toArray⟩) (.int .i64 (k : Int))).run Tryz.prog w = .ok (.int .u8 (rd1 l k : Nat)) w := by
 have h1 : rd1 l k = l[k].toNat := by unfold rd1; rw [List.getD_eq_getElem?_getD, List.getElem?_eq_getElem hk]; rfl
 rw [h1]
 simp [go_sem, hk, Tryz.underlying9]
 rfl
def shapeOk (N : Nat) (l : List UInt8) : Prop := (rd1 l 0 = 1 ∧ l.length = 23 + 4 * N) ∨ (rd1 l 0 = 2 ∧ l.length = 19 + 4 * N)
set_option maxHeartbeats 1000000 in
set_option maxRecDepth 100000 in
theorem rRead_bad' (S : ByteArray) (N n b0 : Nat) (w : World) (hN : N ≤ 8) (hn : S.size = n) (hix : 0 < n → ∀ w : World, (Instr.index 9 (.string S) (.int .i64 0)).run Tryz.prog w = .ok (.int .u8 b0) w) (h1 : ¬ ((b0 = 1 ∧ n = 23 + 4 * N) ∨ (b0 = 2 ∧ n = 19 + 4 * N))) :
  Calls Tryz.prog 66 #[.string S, .int .i64 N] w fun e' w' => Kept (fun _ => False) w w' ∧ e' = .returned (.tuple #[.agg zeroOp, .bool false]) := by
 have hNi : (N : Int) ≤ 8 := by omega
 by_cases c0 : n < 1
 ·have c0i : (n : Int) < 1 := by omega
  clear h1 hix
  go_enter Tryz.func66, Tryz.ntmps66
  go_wp2
  refine bodyPost_ret (v := .tuple #[.agg zeroOp, .bool false]) (by simp [results, Tryz.results66, go_sem, zeroOp]) rfl ?_
  exact ⟨(Kept.refl _ _).alloc _, rfl⟩
 have c0i : ¬ (n : Int) < 1 := by omega
 replace hix := hix (by omega)
 by_cases c1 : b0 = 1
 ·subst c1
  have c2 : ((n : Int) != 10 + 4 * (N : Int) + 5 + 4 + 4) = true := by rw [bne_iff_ne]; omega
  clear h1 c0
  go_enter Tryz.func66, Tryz.ntmps66
  go_wp2
  refine bodyPost_ret (v := .tuple #[.agg zeroOp, .bool false]) (by simp [results, Tryz.results66, go_sem, zeroOp]) rfl ?_
  exact ⟨(Kept.refl _ _).alloc _, rfl⟩
 by_cases c2 : b0 = 2
 ·subst c2
  have c3 : ((n : Int) != 10 + 4 * (N : Int) + 5 + 4) = true := by rw [bne_iff_ne]; omega
  clear h1 c0 c1
  go_enter Tryz.func66, Tryz.ntmps66
  go_wp2
  refine bodyPost_ret (v := .tuple #[.agg zeroOp, .bool false]) (by simp [results, Tryz.results66, go_sem, zeroOp]) rfl ?_
  exact ⟨(Kept.refl _ _).alloc _, rfl⟩
 ·have c3 : ((b0 : Int) != 1) = true := by rw [bne_iff_ne]; omega
  have c4 : ((b0 : Int) != 2) = true := by rw [bne_iff_ne]; omega
  clear h1 c0 c1 c2
  go_enter Tryz.func66, Tryz.ntmps66
  go_wp2
  refine bodyPost_ret (v := .tuple #[.agg zeroOp, .bool false]) (by simp [results, Tryz.results66, go_sem, zeroOp]) rfl ?_
  exact ⟨(Kept.refl _ _).alloc _, rfl⟩
theorem rRead_bad (l : List UInt8) (N : Nat) (w : World) (hN : N ≤ 8) (h : ¬ shapeOk N l) :
  Calls Tryz.prog 66 #[.string ⟨l.toArray⟩, .int .i64 N] w fun e' w' => Kept (fun _ => False) w w' ∧ e' = .returned (.tuple #[.agg zeroOp, .bool false]) :=
 rRead_bad' ⟨l.toArray⟩ N l.length (rd1 l 0) w hN rfl (fun hk w => str_index l 0 hk w) h
theorem rsumB_any (B : ByteArray) (w : World) (hl : B.size ≤ 4294967296) :
  Calls Tryz.prog 82 #[.string B] w fun e' w' => e' = .returned (.int .i64 (sumFrom B.data.toList 0 : Nat)) ∧ w' = w := by
 have h := rsum_any B.data.toList w (by rw [Array.length_toList]; exact hl)
 have e : (⟨B.data.toList.toArray⟩ : ByteArray) = B := by cases B; simp
 rw [e] at h
 exact h
def ReadNo (w : World) (e' : Ending) (w' : World) : Prop := Kept (fun _ => False) w w' ∧ ∃ (b : Bool) (i1 i2 i3 i5 i6 i7 : Int) (a : Option Addr) (n c : Nat) (T : ByteArray), e' = .returned (.tuple #[.agg #[.bool b, .int .i64 i1, .int .i64 i2, .int .i64 i3, .slice a n c, .int .i64 i5, .int .i64 i6, .int .i64 i7, .string T], .bool false])
theorem readNo_zero {w w' : World} (k : Kept (fun _ => False) w w') : ReadNo w (.returned (.tuple #[.agg zeroOp, .bool false])) w' := ⟨k, false, 0, 0, 0, 0, 0, 0, none, 0, 0, ⟨#[]⟩, rfl⟩
def rdBox (ins : Bool) (peer num clock : Nat) (sv : Value) (nc np ch : Nat) (S : ByteArray) : Array Value := #[.bool ins, .int .i64 peer, .int .i64 num, .int .i64 clock, sv, .int .i64 nc, .int .i64 np, .int .i64 ch, .string S]
theorem ints_block {w : World} {v : Value} {l : List Nat} (h : IntsAt w v l) (hl : 0 < l.length) : ∃ g cp cur, v = .slice (some ⟨g, 0, none⟩) l.length cp ∧ w.heap[g]? = some (.cells cur 3 (0, 0)) ∧ ∀ (i n : Nat), l[i]? = some n → cur[i]? = some (.int .i64 (n : Int)) := by
 rcases h.2 with ⟨_, h0⟩ | ⟨g, cap, cur, e1, _, hg, h3, h4, h5, h6⟩
 ·omega
 ·refine ⟨g, cap, cur, e1, hg, fun i n hi => ?_⟩
  have hil : i < l.length := (List.getElem?_eq_some_iff.1 hi).1
  have h7 : (cur.toList.take (l.length * 1))[i]? = (l.map fun (n : Nat) => Value.int .i64 n)[i]? := by rw [h6]
  rw [List.getElem?_take, if_pos (by omega), List.getElem?_map, hi, Array.getElem?_toList] at h7
  exact h7
theorem chain9 {X : World} {s : Nat} {c0 c1 c2 c3 c4 c5 c6 c7 c8 : Value} {t : TypeId} (h : X.heap[s]? = some (.cells #[c0, c1, c2, c3, c4, c5, c6, c7, c8] t (0, 0))) (v0 v1 v2 v3 v4 v5 v6 v7 v8 : Value) :
  (((((((((X.setCell ⟨s, 0, none⟩ v0).setCell ⟨s, 1, none⟩ v1).setCell ⟨s, 2, none⟩ v2).setCell ⟨s, 3, none⟩ v3).setCell ⟨s, 4, none⟩ v4).setCell ⟨s, 5, none⟩ v5).setCell ⟨s, 6, none⟩ v6).setCell ⟨s, 7, none⟩ v7).setCell ⟨s, 8, none⟩ v8).heap[s]? = some (.cells #[v0, v1, v2, v3, v4, v5, v6, v7, v8] t (0, 0)) ∧ Kept (fun x => x = s) X (((((((((X.setCell ⟨s, 0, none⟩ v0).setCell ⟨s, 1, none⟩ v1).setCell ⟨s, 2, none⟩ v2).setCell ⟨s, 3, none⟩ v3).setCell ⟨s, 4, none⟩ v4).setCell ⟨s, 5, none⟩ v5).setCell ⟨s, 6, none⟩ v6).setCell ⟨s, 7, none⟩ v7).setCell ⟨s, 8, none⟩ v8) := by
 constructor
 ·have h0 := heap_set_same h 0 v0
  have h1 := heap_set_same h0 1 v1
  have h2 := heap_set_same h1 2 v2
  have h3 := heap_set_same h2 3 v3
  have h4 := heap_set_same h3 4 v4
  have h5 := heap_set_same h4 5 v5
  have h6 := heap_set_same h5 6 v6
  have h7 := heap_set_same h6 7 v7
  have h8 := heap_set_same h7 8 v8
  simp only [List.setIfInBounds_toArray, List.set_cons_succ, List.set_cons_zero] at h8
  exact h8
 ·have k0 : Kept (fun x => x = s) X (X.setCell ⟨s, 0, none⟩ v0) := Kept.setCell (S := fun x => x = s) (Kept.refl _ X) (p := ⟨s, 0, none⟩) (fun _ => rfl) _
  have k1 := Kept.setCell (S := fun x => x = s) k0 (p := ⟨s, 1, none⟩) (fun _ => rfl) v1
  have k2 := Kept.setCell (S := fun x => x = s) k1 (p := ⟨s, 2, none⟩) (fun _ => rfl) v2
  have k3 := Kept.setCell (S := fun x => x = s) k2 (p := ⟨s, 3, none⟩) (fun _ => rfl) v3
  have k4 := Kept.setCell (S := fun x => x = s) k3 (p := ⟨s, 4, none⟩) (fun _ => rfl) v4
  have k5 := Kept.setCell (S := fun x => x = s) k4 (p := ⟨s, 5, none⟩) (fun _ => rfl) v5
  have k6 := Kept.setCell (S := fun x => x = s) k5 (p := ⟨s, 6, none⟩) (fun _ => rfl) v6
  have k7 := Kept.setCell (S := fun x => x = s) k6 (p := ⟨s, 7, none⟩) (fun _ => rfl) v7
  have k8 := Kept.setCell (S := fun x => x = s) k7 (p := ⟨s, 8, none⟩) (fun _ => rfl) v8
  exact k8
theorem cells9 {X : World} {s : Nat} {c0 c1 c2 c3 c4 c5 c6 c7 c8 : Value} {t : TypeId} (h : X.heap[s]? = some (.cells #[c0, c1, c2, c3, c4, c5, c6, c7, c8] t (0, 0))) :
  X.cell? ⟨s, 0, none⟩ = some c0 ∧ X.cell? ⟨s, 1, none⟩ = some c1 ∧ X.cell? ⟨s, 2, none⟩ = some c2 ∧ X.cell? ⟨s, 3, none⟩ = some c3 ∧ X.cell? ⟨s, 4, none⟩ = some c4 ∧ X.cell? ⟨s, 5, none⟩ = some c5 ∧ X.cell? ⟨s, 6, none⟩ = some c6 ∧ X.cell? ⟨s, 7, none⟩ = some c7 ∧ X.cell? ⟨s, 8, none⟩ = some c8 := by
 refine ⟨?_, ?_, ?_, ?_, ?_, ?_, ?_, ?_, ?_⟩ <;> · rw [Lib.cell_of_heap h]; rfl
def BoxAt (X : World) (s : Nat) (cs : Array Value) : Prop := X.heap[s]? = some (.cells cs 119 (0, 0))
def RdOk (N n : Nat) (ins : Bool) (rd r1 : Nat → Nat) (sm : Nat) : Prop := r1 1 < N ∧ 1 ≤ rd 2 ∧ 1 ≤ rd 6 ∧ rd (10 + 4 * r1 1) + 1 = rd 2 ∧ r1 (14 + 4 * N) < N ∧ (rd (10 + 4 * N) = 0 → ins = true ∧ r1 (14 + 4 * N) = 0) ∧ (ins = true → okChar (rd (15 + 4 * N))) ∧ sm = rd (n - 4)
def RdPost (S : ByteArray) (N n : Nat) (ins : Bool) (rd r1 : Nat → Nat) (sm : Nat) (w : World) (e' : Ending) (w' : World) : Prop :=
 (ReadNo w e' w' ∧ ¬ RdOk N n ins rd r1 sm) ∨
 (RdOk N n ins rd r1 sm ∧ Kept (fun _ => False) w w' ∧
  ∃ g cp cur, e' = .returned (.tuple #[.agg (rdBox ins (r1 1) (rd 2) (rd 6) (.slice (some ⟨g, 0, none⟩) N cp) (rd (10 + 4 * N)) (r1 (14 + 4 * N)) (if ins then rd (15 + 4 * N) else 0) S), .bool true]) ∧ w'.heap[g]? = some (.cells cur 3 (0, 0)) ∧ (∀ i, i < N → cur[i]? = some (.int .i64 (rd (10 + 4 * i)))) ∧ w.heap.size ≤ g)
theorem ret_read {Q : Ending → World → Prop} {a : Act} {X : World} {s : Nat} {c0 c1 c2 c3 c4 c5 c6 c7 c8 : Value} {ok : Bool} (hX : X.heap[s]? = some (.cells #[c0, c1, c2, c3, c4, c5, c6, c7, c8] 119 (0, 0))) (h4 : a.tmps[4]? = some (.pointer (some ⟨s, 0, none⟩))) (h5 : a.tmps[5]? = some (.bool ok)) (hd : a.defers = []) (hQ : Q (.returned (.tuple #[.agg #[c0, c1, c2, c3, c4, c5, c6, c7, c8], .bool ok])) X) : bodyPost Tryz.prog Tryz.f66 Q .ret a X := by
 obtain ⟨x0, x1, x2, x3, x4, x5, x6, x7, x8⟩ := cells9 hX
 have hb := lt_of_heap hX
 exact bodyPost_ret (v := .tuple #[.agg #[c0, c1, c2, c3, c4, c5, c6, c7, c8], .bool ok]) (by simp [results, Tryz.results66, go_sem, h4, h5, x0, x1, x2, x3, x4, x5, x6, x7, x8]) hd hQ
theorem read_zero {a : Act} {S : ByteArray} {N n : Nat} {ins : Bool} {rd r1 : Nat → Nat} {sm : Nat} {w X : World} {b : Nat} {cs : Array Value} (h : RdSt w X b cs) (hno : ¬ RdOk N n ins rd r1 sm) (h4 : a.tmps[4]? = some (.pointer (some ⟨w.heap.size, 0, none⟩))) (h5 : a.tmps[5]? = some (.bool false)) (hd : a.defers = []) :
  bodyPost Tryz.prog Tryz.f66 (RdPost S N n ins rd r1 sm w) .ret a (((((((((X.setCell ⟨w.heap.size, 0, none⟩ (.bool false)).setCell ⟨w.heap.size, 1, none⟩ (.int .i64 0)).setCell ⟨w.heap.size, 2, none⟩ (.int .i64 0)).setCell ⟨w.heap.size, 3, none⟩ (.int .i64 0)).setCell ⟨w.heap.size, 4, none⟩ (.slice none 0 0)).setCell ⟨w.heap.size, 5, none⟩ (.int .i64 0)).setCell ⟨w.heap.size, 6, none⟩ (.int .i64 0)).setCell ⟨w.heap.size, 7, none⟩ (.int .i64 0)).setCell ⟨w.heap.size, 8, none⟩ (.string ⟨#[]⟩)) := by
 obtain ⟨h1, h2⟩ := chain9 (s := w.heap.size) h.res (.bool false) (.int .i64 0) (.int .i64 0) (.int .i64 0) (.slice none 0 0) (.int .i64 0) (.int .i64 0) (.int .i64 0) (.string ⟨#[]⟩)
 exact ret_read h1 h4 h5 hd (Or.inl ⟨readNo_zero (h.kept.trans h2 (fun x hx e => by omega)), hno⟩)
theorem read_done {a : Act} {S : ByteArray} {N n : Nat} {ins : Bool} {rd r1 : Nat → Nat} {sm : Nat} {w X : World} {g cp : Nat} {cur : Array Value} {ch : Nat} {ok : Bool} (h1 : X.heap[w.heap.size]? = some (.cells (rdBox ins (r1 1) (rd 2) (rd 6) (.slice (some ⟨g, 0, none⟩) N cp) (rd (10 + 4 * N)) (r1 (14 + 4 * N)) ch S) 119 (0, 0))) (hk : Kept (fun _ => False) w X) (hg : X.heap[g]? = some (.cells cur 3 (0, 0))) (hcur : ∀ i, i < N → cur[i]? = some (.int .i64 (rd (10 + 4 * i)))) (hgs : w.heap.size < g) (hok : ok = true ↔ RdOk N n ins rd r1 sm) (hch : RdOk N n ins rd r1 sm → ch = if ins then rd (15 + 4 * N) else 0) (h4 : a.tmps[4]? = some (.pointer (some ⟨w.heap.size, 0, none⟩))) (h5 : a.tmps[5]? = some (.bool ok)) (hd : a.defers = []) :
  bodyPost Tryz.prog Tryz.f66 (RdPost S N n ins rd r1 sm w) .ret a X := by
 refine ret_read h1 h4 h5 hd ?_
 cases ok with
 | false => exact Or.inl ⟨⟨hk, _, _, _, _, _, _, _, _, _, _, _, rfl⟩, fun h => by have := hok.2 h; cases this⟩
 | true =>
  have h3 := hok.1 rfl
  refine Or.inr ⟨h3, hk, g, cp, cur, ?_, hg, hcur, by omega⟩
  rw [hch h3]
  rfl
end Go.Proofs.YtgfafbanahiigaaGreat
