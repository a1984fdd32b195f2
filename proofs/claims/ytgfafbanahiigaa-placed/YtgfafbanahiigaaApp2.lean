/- Appending none; runes as a string; of no program. -/
import Derived.Test.YtgfafbanahiigaaApp
import Derived.Laws.Cover4
namespace Go.Chorus
open Go.RowKit

theorem append_zero (P : Program) (w : World) (t tx e : TypeId) (i : TypeInfo) (ht : P.underlying t = some (.slice e)) (hi : P.info? e = some i) (v : Value) (n : Nat) (xs : List Value) (hown : w.ownsRow 0 e i.size v n xs) (x : Value) (hs : Src P i.size tx x 0 [] w) (ty : TypeId) :
    (Builtin.append_ #[t, tx] ty #[v, x]).run P w = .ok v w := by
  obtain ⟨a, cap, rfl, _, hnc⟩ := own_slice hown
  rcases hs.kind with ⟨e', hk⟩ | hk <;> cases a <;> simp [Builtin.append_, run_underlying ht, run_underlying hk, sizeOf, typeInfo, hi, hs.len, hnc, hs.cells, storeCells]

theorem append_any (P : Program) (w : World) (t tx e : TypeId) (i : TypeInfo) (z : Value) (size bytes : Nat) (ht : P.underlying t = some (.slice e)) (hi : P.info? e = some i) (hz : i.zero = some z)
    (hsize : i.size = size) (hby : i.bytes = bytes) (hzs : z.cells.size = size) (hsz : 0 < size)
    (v : Value) (n : Nat) (xs : List Value) (hown : w.ownsRow 0 e size v n xs) (x : Value) (m : Nat) (news : List Value) (hs : Src P size tx x m news w)
    (h63 : n + m ≤ maxLen) (hbytes : (n + m) * bytes ≤ 140737488355328) :
    ∃ v' w', (∀ ty, (Builtin.append_ #[t, tx] ty #[v, x]).run P w = .ok v' w') ∧ w'.ownsRow 0 e size v' (n + m) (xs ++ news) ∧ Kept (fun k => v.ownBlock = some k) w w' ∧ (∀ k, v'.ownBlock = some k → v.ownBlock = some k ∨ w.heap.size ≤ k) := by
  by_cases hm : 0 < m
  · exact append_strong P w t tx e i z size bytes ht hi hz hsize hby hzs hsz v n xs hown x m news hs hm h63 hbytes
  · obtain rfl : m = 0 := by omega
    obtain rfl : news = [] := by have := hs.newsLen; simpa using this
    subst hsize
    exact ⟨v, w, fun ty => append_zero P w t tx e i ht hi v n xs hown x hs ty, by simpa using hown, Kept.refl _ w, fun k hk => Or.inl hk⟩

theorem encode_eq (n : Nat) (hv : n < 55296 ∨ (57344 ≤ n ∧ n ≤ 1114111)) : Utf8.encode (n : Int) = ⟨(Lib.encodeRune n).toArray⟩ := by
  have hval : Utf8.valid (n : Int) = true := by unfold Utf8.valid; simp; omega
  unfold Utf8.encode
  simp only [hval, if_true, Int.toNat_natCast]
  by_cases h1 : n < 128
  · rw [if_pos h1]
    unfold Lib.encodeRune
    rw [Lib.encodeRuneZ_one (by omega) (by omega)]
    simp [Nat.toUInt8]
  · rw [if_neg h1]
    by_cases h2 : n < 2048
    · rw [if_pos h2]
      unfold Lib.encodeRune
      rw [Lib.encodeRuneZ_two (by omega) (by omega)]
      have e1 : (192 + (n : Int) / 64).toNat = 192 + n / 64 := by omega
      have e2 : (128 + (n : Int) % 64).toNat = 128 + n % 64 := by omega
      simp only [List.map_cons, List.map_nil, e1, e2]
    · rw [if_neg h2]
      by_cases h3 : n < 65536
      · rw [if_pos h3]
        unfold Lib.encodeRune
        rw [Lib.encodeRuneZ_three (by omega)]
        have e1 : (224 + (n : Int) / 4096).toNat = 224 + n / 4096 := by omega
        have e2 : (128 + (n : Int) / 64 % 64).toNat = 128 + n / 64 % 64 := by omega
        have e3 : (128 + (n : Int) % 64).toNat = 128 + n % 64 := by omega
        simp only [List.map_cons, List.map_nil, e1, e2, e3]
      · rw [if_neg h3]
        unfold Lib.encodeRune
        rw [Lib.encodeRuneZ_four (by omega) (by omega)]
        have e1 : (240 + (n : Int) / 262144).toNat = 240 + n / 262144 := by omega
        have e2 : (128 + (n : Int) / 4096 % 64).toNat = 128 + n / 4096 % 64 := by omega
        have e3 : (128 + (n : Int) / 64 % 64).toNat = 128 + n / 64 % 64 := by omega
        have e4 : (128 + (n : Int) % 64).toNat = 128 + n % 64 := by omega
        simp only [List.map_cons, List.map_nil, e1, e2, e3, e4]

def okRune (c : Int) : Prop := (0 ≤ c ∧ c < 55296) ∨ (57344 ≤ c ∧ c ≤ 1114111)

theorem foldl_bytes (l : List Int) (s : List UInt8) (h : ∀ c ∈ l, okRune c) : l.foldl (fun r n => r ++ Utf8.encode n) (⟨s.toArray⟩ : ByteArray) = ⟨(s ++ l.flatMap Lib.encodeRune).toArray⟩ := by
  induction l generalizing s with
  | nil => simp
  | cons c r ih =>
    have hc := h c (by simp)
    obtain ⟨n, rfl⟩ : ∃ n : Nat, c = n := ⟨c.toNat, by unfold okRune at hc; omega⟩
    simp only [List.foldl_cons]
    rw [encode_eq n (by unfold okRune at hc; omega)]
    have e : (⟨s.toArray⟩ : ByteArray) ++ ⟨(Lib.encodeRune n).toArray⟩ = ⟨(s ++ Lib.encodeRune n).toArray⟩ := by
      apply ByteArray.ext
      simp [ByteArray.data_append]
    rw [e, ih (s ++ Lib.encodeRune n) (fun x hx => h x (by simp [hx]))]
    simp

theorem runesBytes_eq (l : List Int) (h : ∀ c ∈ l, okRune c) : runesBytes l = ⟨(l.flatMap Lib.encodeRune).toArray⟩ := by
  have := foldl_bytes l [] h
  rw [List.nil_append] at this
  exact this

end Go.Chorus
