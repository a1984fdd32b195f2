import Derived.Test.YtgfafbanahiigaaGreatBase
import Derived.Deep.AppendSrc
import Derived.Lib.AppendZeros
import Derived.Laws.Cover4
namespace Go.Chorus
open Go.RowKit
theorem heap_setRow {w : World} {g : Nat} {cur new : Array Value} {t : TypeId} {f : Nat × Nat} (h : w.heap[g]? = some (.cells cur t f)) : (w.setRow g new).heap[g]? = some (.cells new t f) := by
 simp [World.setRow, Array.getElem?_modify, h]
theorem heap_setRow_other {w : World} {g k : Nat} {new : Array Value} (h : k ≠ g) : (w.setRow g new).heap[k]? = w.heap[k]? := by
 simp only [World.setRow, Array.getElem?_modify]
 rw [if_neg (fun e => h e.symm)]
theorem kept_setRow {S : Nat → Prop} {a w : World} (h : Kept S a w) {g : Nat} (hp : g < a.heap.size → S g) (new : Array Value) : Kept S a (w.setRow g new) :=
 h.trans (S' := fun k => k = g) ⟨rfl, rfl, rfl, by simp [World.setRow], fun _ _ hn => heap_setRow_other hn⟩ (fun i hi hs => by subst hs; exact hp hi)
theorem own_slice {w : World} {base : Nat} {e : TypeId} {size : Nat} {v : Value} {n : Nat} {xs : List Value} (h : w.ownsRow base e size v n xs) : ∃ a cap, v = .slice a n cap ∧ cap ≤ maxLen ∧ n ≤ cap := by
 rcases h.2 with ⟨hv, h0⟩ | ⟨g, cap, cur, hv, _, _, hnc, hm, _⟩
 ·exact ⟨none, 0, by rw [hv, h0], by unfold maxLen; omega, by omega⟩
 ·exact ⟨_, _, hv, hm, hnc⟩
theorem run_append_room_row (P : Program) (w : World) (t tx ty e : TypeId) (i : TypeInfo) (ht : P.underlying t = some (.slice e)) (hi : P.info? e = some i) (g sLen sCap : Nat) (cur : Array Value) (hg : w.heap[g]? = some (.cells cur e (0, 0))) (x : Value) (n : Nat) (news : List Value) (hs : Src P i.size tx x n news w)
  (hroom : sLen + n ≤ sCap) (hfit : sLen * i.size + news.length ≤ cur.size) :
  (Builtin.append_ #[t, tx] ty #[.slice (some ⟨g, 0, none⟩) sLen sCap, x]).run P w = .ok (.slice (some ⟨g, 0, none⟩) (sLen + n) sCap) (w.setRow g (cur.toList.take (sLen * i.size) ++ news ++ cur.toList.drop (sLen * i.size + news.length)).toArray) := by
 have hst := run_storeCells_at P g (sLen * i.size) e news 0 cur w hg (by simpa using hfit) hs.one
 simp only [Nat.add_zero] at hst
 rcases hs.kind with ⟨e', hk⟩ | hk <;> simp [Builtin.append_, run_underlying ht, run_underlying hk, sizeOf, typeInfo, hi, hs.len, hroom, hs.cells, Addr.add_lit, hst]
theorem grown_row {w : World} {e : TypeId} {size G n : Nat} {xs : List Value} {z : Array Value} (hl : xs.length = n * size) (hz : z.size = size) (hG : n ≤ G) (hM : G ≤ maxLen) :
  (w.alloc (.cells (xs.toArray ++ Builtin.zeroCells z (G - n)) e)).ownsRow 0 e size (.slice (some ⟨w.heap.size, 0, none⟩) n G) n xs := by
 refine ⟨hl, Or.inr ⟨w.heap.size, G, _, rfl, Nat.zero_le _, heap_alloc_new w _, hG, hM, ?_, ?_⟩⟩
 ·have : (Builtin.zeroCells z (G - n)).size = (G - n) * size := by simp [Builtin.zeroCells, hz]
  rw [Array.size_append, this, List.size_toArray, hl, ← Nat.add_mul]; congr 1; omega
 ·rw [Array.toList_append]
  exact List.take_left' hl
theorem append_strong (P : Program) (w : World) (t tx e : TypeId) (i : TypeInfo) (z : Value) (size bytes : Nat) (ht : P.underlying t = some (.slice e)) (hi : P.info? e = some i) (hz : i.zero = some z)
  (hsize : i.size = size) (hby : i.bytes = bytes) (hzs : z.cells.size = size) (hsz : 0 < size)
  (v : Value) (n : Nat) (xs : List Value) (hown : w.ownsRow 0 e size v n xs) (x : Value) (m : Nat) (news : List Value) (hs : Src P size tx x m news w) (hm : 0 < m)
  (h63 : n + m ≤ maxLen) (hbytes : (n + m) * bytes ≤ 140737488355328) :
  ∃ v' w', (∀ ty, (Builtin.append_ #[t, tx] ty #[v, x]).run P w = .ok v' w') ∧ w'.ownsRow 0 e size v' (n + m) (xs ++ news) ∧ Kept (fun k => v.ownBlock = some k) w w' ∧ (∀ k, v'.ownBlock = some k → v.ownBlock = some k ∨ w.heap.size ≤ k) := by
 subst hsize
 subst hby
 have hxl := hown.1
 have hnl := hs.newsLen
 have hGm : grownCap w (n + m) 0 e ≤ maxLen := grownCap_le_maxLen w _ _ _ h63
 rcases hown.2 with ⟨rfl, rfl⟩ | ⟨g, cap, cur, rfl, _, hg, hnc, hmx, hcs, htk⟩
 ·obtain rfl : xs = [] := by simpa using hxl
  refine ⟨_, _, fun ty => run_append_grow_src (P := P) w t tx ty e i z ht hi hz none 0 0 [] (run_firstCells_none w.drew _ _ _ _) x m news hs (by omega) (by unfold maxLen at h63; omega) (growslice_fits (by omega) (by omega)), ?_, ?_, ?_⟩
  ·have := grown_row (w := w.drew) (e := e) (size := i.size) (G := grownCap w (0 + m) 0 e) (n := 0 + m) (xs := [] ++ news) (z := z.cells) (by simpa using hnl) hzs (grownCap_ge w _ _ _) (grownCap_le_maxLen w _ _ _ h63)
   exact this
  ·exact ((Kept.refl _ w).drew).alloc _
  ·intro k hk; right; simp [Value.ownBlock] at hk; omega
 ·by_cases hroom : n + m ≤ cap
  ·refine ⟨_, _, fun ty => run_append_room_row P w t tx ty e i ht hi g n cap cur hg x m news hs hroom (by rw [hnl, hcs, ← Nat.add_mul]; exact Nat.mul_le_mul_right _ hroom), ?_, ?_, ?_⟩
   ·refine ⟨by rw [List.length_append, hxl, hnl, Nat.add_mul], Or.inr ⟨g, cap, _, rfl, Nat.zero_le _, heap_setRow hg, hroom, hmx, ?_, ?_⟩⟩
    ·have h2 : n * i.size + news.length ≤ cap * i.size := by rw [hnl, ← Nat.add_mul]; exact Nat.mul_le_mul_right _ hroom
     have h3 : n * i.size ≤ cap * i.size := Nat.mul_le_mul_right _ hnc
     rw [List.size_toArray, List.length_append, List.length_append, List.length_take, List.length_drop, Array.length_toList, hcs]
     omega
    ·rw [htk]
     exact List.take_left' (by rw [List.length_append, hxl, hnl, Nat.add_mul])
   ·exact kept_setRow (S := fun k => (Value.slice (some ⟨g, 0, none⟩) n cap).ownBlock = some k) (Kept.refl _ w) (fun _ => rfl) _
   ·intro k hk; left; exact hk
  ·have hold : (Builtin.firstCells i.size n (.slice (some ⟨g, 0, none⟩) n cap)).run P w.drew = .ok xs.toArray w.drew :=
    run_firstCells_some w.drew i.size n ⟨g, 0, none⟩ n cap xs hxl (fun j u hj => by
     have hj2 : j < xs.length := (List.getElem?_eq_some_iff.1 hj).1
     rw [Addr.add_lit, Nat.zero_add]
     show w.cell? ⟨g, j, none⟩ = _
     rw [Lib.cell_of_heap hg, ← Array.getElem?_toList, ← hj, ← htk, List.getElem?_take, if_pos (by omega)])
   refine ⟨_, _, fun ty => run_append_grow_src (P := P) w t tx ty e i z ht hi hz (some ⟨g, 0, none⟩) n cap xs hold x m news hs (by omega) (by unfold maxLen at h63; omega) (growslice_fits (by omega) (by omega)), ?_, ?_, ?_⟩
   ·exact grown_row (w := w.drew) (e := e) (size := i.size) (by rw [List.length_append, hxl, hnl, Nat.add_mul]) hzs (grownCap_ge w _ _ _) (grownCap_le_maxLen w _ _ _ h63)
   ·exact ((Kept.refl _ w).drew).alloc _
   ·intro k hk; right; simp [Value.ownBlock] at hk; omega
end Go.Chorus
namespace Go.Chorus
open Go.RowKit
theorem append_zero (P : Program) (w : World) (t tx e : TypeId) (i : TypeInfo) (ht : P.underlying t = some (.slice e)) (hi : P.info? e = some i) (v : Value) (n : Nat) (xs : List Value) (hown : w.ownsRow 0 e i.size v n xs) (x : Value) (hs : Src P i.size tx x 0 [] w) (ty : TypeId) :
  (Builtin.append_ #[t, tx] ty #[v, x]).run P w = .ok v w := by
 obtain ⟨a, cap, rfl, _, hnc⟩ := own_slice hown
 rcases hs.kind with ⟨e', hk⟩ | hk <;> cases a <;> simp [Builtin.append_, run_underlying ht, run_underlying hk, sizeOf, typeInfo, hi, hs.len, hnc, hs.cells, storeCells]
theorem append_any (P : Program) (w : World) (t tx e : TypeId) (i : TypeInfo) (z : Value) (size bytes : Nat) (ht : P.underlying t = some (.slice e)) (hi : P.info? e = some i) (hz : i.zero = some z)
  (hsize : i.size = size) (hby : i.bytes = bytes) (hzs : z.cells.size = size) (hsz : 0 < size)
  (v : Value) (n : Nat) (xs : List Value) (hown : w.ownsRow 0 e size v n xs) (x : Value) (m : Nat) (news : List Value) (hs : Src P size tx x m news w)
  (h63 : n + m ≤ maxLen) (hbytes : (n + m) * bytes ≤ 140737488355328) :
  ∃ v' w', (∀ ty, (Builtin.append_ #[t, tx] ty #[v, x]).run P w = .ok v' w') ∧ w'.ownsRow 0 e size v' (n + m) (xs ++ news) ∧ Kept (fun k => v.ownBlock = some k) w w' ∧ (∀ k, v'.ownBlock = some k → v.ownBlock = some k ∨ w.heap.size ≤ k) := by
 by_cases hm : 0 < m
 ·exact append_strong P w t tx e i z size bytes ht hi hz hsize hby hzs hsz v n xs hown x m news hs hm h63 hbytes
 ·obtain rfl : m = 0 := by omega
  obtain rfl : news = [] := by have := hs.newsLen; simpa using this
  subst hsize
  exact ⟨v, w, fun ty => append_zero P w t tx e i ht hi v n xs hown x hs ty, by simpa using hown, Kept.refl _ w, fun k hk => Or.inl hk⟩
theorem encode_eq (n : Nat) (hv : n < 55296 ∨ (57344 ≤ n ∧ n ≤ 1114111)) : Utf8.encode (n : Int) = ⟨(Lib.encodeRune n).toArray⟩ := by
 have hval : Utf8.valid (n : Int) = true := by unfold Utf8.valid; simp; omega
 unfold Utf8.encode
 simp only [hval, if_true, Int.toNat_natCast]
 by_cases h1 : n < 128
 ·rw [if_pos h1]
  unfold Lib.encodeRune
  rw [Lib.encodeRuneZ_one (by omega) (by omega)]
  simp [Nat.toUInt8]
 ·rw [if_neg h1]
  by_cases h2 : n < 2048
  ·rw [if_pos h2]
   unfold Lib.encodeRune
   rw [Lib.encodeRuneZ_two (by omega) (by omega)]
   have e1 : (192 + (n : Int) / 64).toNat = 192 + n / 64 := by omega
   have e2 : (128 + (n : Int) % 64).toNat = 128 + n % 64 := by omega
   simp only [List.map_cons, List.map_nil, e1, e2]
  ·rw [if_neg h2]
   by_cases h3 : n < 65536
   ·rw [if_pos h3]
    unfold Lib.encodeRune
    rw [Lib.encodeRuneZ_three (by omega)]
    have e1 : (224 + (n : Int) / 4096).toNat = 224 + n / 4096 := by omega
    have e2 : (128 + (n : Int) / 64 % 64).toNat = 128 + n / 64 % 64 := by omega
    have e3 : (128 + (n : Int) % 64).toNat = 128 + n % 64 := by omega
    simp only [List.map_cons, List.map_nil, e1, e2, e3]
   ·rw [if_neg h3]
    unfold Lib.encodeRune
    rw [Lib.encodeRuneZ_four (by omega) (by omega)]
    have e1 : (240 + (n : Int) / 262144).toNat = 240 + n / 262144 := by omega
    have e2 : (128 + (n : Int) / 4096 % 64).toNat = 128 + n / 4096 % 64 := by omega
    have e3 : (128 + (n : Int) / 64 % 64).toNat = 128 + n / 64 % 64 := by omega
    have e4 : (128 + (n : Int) % 64).toNat = 128 + n % 64 := by omega
    simp only [List.map_cons, List.map_nil, e1, e2, e3, e4]
def okRune (c : Int) : Prop := (0 ≤ c ∧ c < 55296) ∨ (57344 ≤ c ∧ c ≤ 1114111)
end Go.Chorus
