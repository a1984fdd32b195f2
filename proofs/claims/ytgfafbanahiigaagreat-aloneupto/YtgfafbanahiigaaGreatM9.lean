import Derived.Test.YtgfafbanahiigaaGreatSpec
import Derived.Test.YtgfafbanahiigaaGreatMA
set_option linter.unusedVariables false
set_option linter.unusedSimpArgs false
namespace Go.Chorus
theorem four_inj (n m : Nat) (hn : n < 4294967296) (hm : m < 4294967296) (h : four n = four m) : n = m := by
 unfold four at h
 simp only [List.cons.injEq, and_true, ← UInt8.toNat_inj, UInt8.toNat_ofNat'] at h
 omega
end Go.Chorus
set_option linter.unusedVariables false
set_option linter.unusedSimpArgs false
namespace Go.Chorus
def readBE (l : List UInt8) : Nat := l.foldl (fun n b => 256 * n + b.toNat) 0
def rd4 (l : List UInt8) (i : Nat) : Nat := readBE ((l.drop i).take 4)
def rd1 (l : List UInt8) (i : Nat) : Nat := (l.getD i 0).toNat
theorem readBE_four (n : Nat) (hn : n < 4294967296) : readBE (four n) = n := by
 simp only [readBE, four, List.foldl_cons, List.foldl_nil, UInt8.toNat_ofNat']
 omega
theorem rd4_at (a r : List UInt8) (n i : Nat) (hi : i = a.length) (hn : n < 4294967296) : rd4 (a ++ four n ++ r) i = n := by
 subst hi
 unfold rd4
 rw [List.append_assoc, List.drop_left, List.take_left' (show (four n).length = 4 from rfl), readBE_four n hn]
theorem rd1_at (a r : List UInt8) (n i : Nat) (hi : i = a.length) (hn : n < 256) : rd1 (a ++ [UInt8.ofNat n] ++ r) i = n := by
 subst hi
 unfold rd1
 rw [List.append_assoc, List.getD_eq_getElem?_getD, List.getElem?_append_right (Nat.le_refl _)]
 simp
 omega
structure RightOp (N : Nat) (o : Ope) : Prop where
 group : N ≤ 8
 peer : o.peer < N
 num : 1 ≤ o.num ∧ o.num < 4294967296
 clock : 1 ≤ o.clock ∧ o.clock < 4294967296
 seen : o.seen.length = N
 fits : ∀ x ∈ o.seen, x < 4294967296
 own : sn o o.peer + 1 = o.num
 name : o.nclock < 4294967296 ∧ o.npeer < N
 begin_ : o.nclock = 0 → o.ins = true ∧ o.npeer = 0
 char : if o.ins then (o.char < 55296 ∨ (57344 ≤ o.char ∧ o.char ≤ 1114111)) else o.char = 0
def fieldsOf (N : Nat) (l : List UInt8) : Ope :=
 ⟨decide (rd1 l 0 = 1), rd1 l 1, rd4 l 2, rd4 l 6, (List.range N).map fun i => rd4 l (10 + 4 * i), rd4 l (10 + 4 * N), rd1 l (14 + 4 * N), if rd1 l 0 = 1 then rd4 l (15 + 4 * N) else 0⟩
theorem head_length (o : Ope) : (packetHead o.kind o.peer o.num o.clock o.seen o.nclock o.npeer o.char).length = 15 + 4 * o.seen.length + if o.ins then 4 else 0 := by
 unfold packetHead Ope.kind
 cases o.ins <;> simp [four, fours_length] <;> omega
theorem packet_length (o : Ope) : o.packet.length = 19 + 4 * o.seen.length + if o.ins then 4 else 0 := by
 unfold Ope.packet packetOf
 rw [List.length_append, head_length]
 simp [four]; omega
theorem fieldsOf_packet {N : Nat} {o : Ope} (h : RightOp N o) : fieldsOf N o.packet = o := by
 have hk : o.kind < 256 := by unfold Ope.kind; split <;> omega
 have hp := h.peer
 have hg := h.group
 have hN := h.seen
 obtain ⟨S, hS⟩ : ∃ S, S = four (sumFrom (packetHead o.kind o.peer o.num o.clock o.seen o.nclock o.npeer o.char) 0) := ⟨_, rfl⟩
 have e : o.packet = packetHead o.kind o.peer o.num o.clock o.seen o.nclock o.npeer o.char ++ S := by rw [hS]; rfl
 have e0 : rd1 o.packet 0 = o.kind := by
  have := rd1_at [] ([UInt8.ofNat o.peer] ++ four o.num ++ four o.clock ++ fours o.seen ++ four o.nclock ++ [UInt8.ofNat o.npeer] ++ (if o.kind = 1 then four o.char else []) ++ S) o.kind 0 rfl hk
  rw [e]; unfold packetHead; simpa using this
 have e1 : rd1 o.packet 1 = o.peer := by
  have := rd1_at [UInt8.ofNat o.kind] (four o.num ++ four o.clock ++ fours o.seen ++ four o.nclock ++ [UInt8.ofNat o.npeer] ++ (if o.kind = 1 then four o.char else []) ++ S) o.peer 1 rfl (by omega)
  rw [e]; unfold packetHead; simpa using this
 have e2 : rd4 o.packet 2 = o.num := by
  have := rd4_at [UInt8.ofNat o.kind, UInt8.ofNat o.peer] (four o.clock ++ fours o.seen ++ four o.nclock ++ [UInt8.ofNat o.npeer] ++ (if o.kind = 1 then four o.char else []) ++ S) o.num 2 rfl h.num.2
  rw [e]; unfold packetHead; simpa using this
 have e3 : rd4 o.packet 6 = o.clock := by
  have := rd4_at ([UInt8.ofNat o.kind, UInt8.ofNat o.peer] ++ four o.num) (fours o.seen ++ four o.nclock ++ [UInt8.ofNat o.npeer] ++ (if o.kind = 1 then four o.char else []) ++ S) o.clock 6 rfl h.clock.2
  rw [e]; unfold packetHead; simpa using this
 have e4 : ∀ i x, o.seen[i]? = some x → rd4 o.packet (10 + 4 * i) = x := by
  intro i x hx
  have hi : i < o.seen.length := (List.getElem?_eq_some_iff.1 hx).1
  have hxe : o.seen[i] = x := (List.getElem?_eq_some_iff.1 hx).2
  have hsp : fours o.seen = fours (o.seen.take i) ++ four x ++ fours (o.seen.drop (i + 1)) := by
   conv => lhs; rw [← List.take_append_drop i o.seen, List.drop_eq_getElem_cons hi, hxe]
   rw [fours_append]; simp [fours]
  have := rd4_at ([UInt8.ofNat o.kind, UInt8.ofNat o.peer] ++ four o.num ++ four o.clock ++ fours (o.seen.take i)) (fours (o.seen.drop (i + 1)) ++ four o.nclock ++ [UInt8.ofNat o.npeer] ++ (if o.kind = 1 then four o.char else []) ++ S) x (10 + 4 * i) (by
   simp only [List.length_append, fours_length, List.length_take, four, List.length_cons, List.length_nil]; omega) (h.fits x (List.mem_of_getElem? hx))
  rw [e]; unfold packetHead; rw [hsp]; simpa using this
 have e5 : rd4 o.packet (10 + 4 * N) = o.nclock := by
  have := rd4_at ([UInt8.ofNat o.kind, UInt8.ofNat o.peer] ++ four o.num ++ four o.clock ++ fours o.seen) ([UInt8.ofNat o.npeer] ++ (if o.kind = 1 then four o.char else []) ++ S) o.nclock (10 + 4 * N) (by
   simp only [List.length_append, fours_length, four, List.length_cons, List.length_nil]; omega) h.name.1
  rw [e]; unfold packetHead; simpa using this
 have e6 : rd1 o.packet (14 + 4 * N) = o.npeer := by
  have := rd1_at ([UInt8.ofNat o.kind, UInt8.ofNat o.peer] ++ four o.num ++ four o.clock ++ fours o.seen ++ four o.nclock) ((if o.kind = 1 then four o.char else []) ++ S) o.npeer (14 + 4 * N) (by
   simp only [List.length_append, fours_length, four, List.length_cons, List.length_nil]; omega) (by have := h.name.2; omega)
  rw [e]; unfold packetHead; simpa using this
 have e7 : (if rd1 o.packet 0 = 1 then rd4 o.packet (15 + 4 * N) else 0) = o.char := by
  rw [e0]
  have hc := h.char
  cases hi : o.ins with
  | false =>
   rw [hi] at hc
   rw [if_neg (by unfold Ope.kind; rw [hi]; simp)]
   simpa using hc.symm
  | true =>
   rw [hi] at hc
   have hk1 : o.kind = 1 := by unfold Ope.kind; rw [hi]; rfl
   rw [if_pos hk1]
   have := rd4_at ([UInt8.ofNat o.kind, UInt8.ofNat o.peer] ++ four o.num ++ four o.clock ++ fours o.seen ++ four o.nclock ++ [UInt8.ofNat o.npeer]) S o.char (15 + 4 * N) (by
    simp only [List.length_append, fours_length, four, List.length_cons, List.length_nil]; omega) (by simp only [if_true] at hc; omega)
   rw [e]; unfold packetHead; rw [if_pos hk1]; simpa using this
 have e8 : ((List.range N).map fun i => rd4 o.packet (10 + 4 * i)) = o.seen := by
  apply List.ext_getElem?
  intro i
  rw [List.getElem?_map]
  by_cases hi : i < N
  ·rw [List.getElem?_range hi]
   obtain ⟨x, hx⟩ : ∃ x, o.seen[i]? = some x := ⟨_, List.getElem?_eq_getElem (by omega)⟩
   rw [hx]; simp [e4 i x hx]
  ·rw [List.getElem?_eq_none (by simp; omega), List.getElem?_eq_none (by omega)]; rfl
 have e9 : decide (rd1 o.packet 0 = 1) = o.ins := by
  rw [e0]; unfold Ope.kind; cases o.ins <;> simp
 unfold fieldsOf
 rw [e9, e1, e2, e3, e8, e5, e6, e7]
end Go.Chorus
set_option linter.unusedVariables false
set_option linter.unusedSimpArgs false
namespace Go.Chorus
def okChar (c : Nat) : Prop := c < 55296 ∨ (57344 ≤ c ∧ c ≤ 1114111)
structure Right (N : Nat) (l : List UInt8) : Prop where
 size : (rd1 l 0 = 1 ∧ l.length = 23 + 4 * N) ∨ (rd1 l 0 = 2 ∧ l.length = 19 + 4 * N)
 peer : (fieldsOf N l).peer < N
 num : 1 ≤ (fieldsOf N l).num
 clock : 1 ≤ (fieldsOf N l).clock
 own : sn (fieldsOf N l) (fieldsOf N l).peer + 1 = (fieldsOf N l).num
 npeer : (fieldsOf N l).npeer < N
 begin_ : (fieldsOf N l).nclock = 0 → (fieldsOf N l).ins = true ∧ (fieldsOf N l).npeer = 0
 char : (fieldsOf N l).ins = true → okChar (fieldsOf N l).char
 sum : sumFrom (l.take (l.length - 4)) 0 = rd4 l (l.length - 4)
theorem four_readBE (a b c d : UInt8) : four (readBE [a, b, c, d]) = [a, b, c, d] := by
 have ha := a.toNat_lt
 have hb := b.toNat_lt
 have hc := c.toNat_lt
 have hd := d.toNat_lt
 simp only [readBE, four, List.foldl_cons, List.foldl_nil, List.cons.injEq, and_true, ← UInt8.toNat_inj, UInt8.toNat_ofNat']
 omega
theorem readBE_lt (a b c d : UInt8) : readBE [a, b, c, d] < 4294967296 := by
 have ha := a.toNat_lt
 have hb := b.toNat_lt
 have hc := c.toNat_lt
 have hd := d.toNat_lt
 simp only [readBE, List.foldl_cons, List.foldl_nil]
 omega
theorem take4 (l : List UInt8) (h : 4 ≤ l.length) : ∃ a b c d r, l = a :: b :: c :: d :: r := by
 match l, h with
 | a :: b :: c :: d :: r, _ => exact ⟨a, b, c, d, r, rfl⟩
theorem split4 (l : List UInt8) (i : Nat) (h : i + 4 ≤ l.length) : l.drop i = four (rd4 l i) ++ l.drop (i + 4) ∧ rd4 l i < 4294967296 := by
 obtain ⟨a, b, c, d, r, hr⟩ := take4 (l.drop i) (by simp; omega)
 have h2 : l.drop (i + 4) = r := by rw [← List.drop_drop, hr]; rfl
 have h3 : rd4 l i = readBE [a, b, c, d] := by unfold rd4; rw [hr]; rfl
 refine ⟨?_, by rw [h3]; exact readBE_lt a b c d⟩
 rw [h2, h3, four_readBE, hr]; rfl
theorem split1 (l : List UInt8) (i : Nat) (h : i < l.length) : l.drop i = [UInt8.ofNat (rd1 l i)] ++ l.drop (i + 1) := by
 rw [List.drop_eq_getElem_cons h]
 simp [rd1, List.getD_eq_getElem?_getD, List.getElem?_eq_getElem h]
theorem splits (l : List UInt8) (n i : Nat) (h : i + 4 * n ≤ l.length) : l.drop i = fours ((List.range n).map fun j => rd4 l (i + 4 * j)) ++ l.drop (i + 4 * n) := by
 induction n with
 | zero => simp [fours]
 | succ n ih =>
  rw [ih (by omega), (split4 l (i + 4 * n) (by omega)).1, List.range_succ, List.map_append, fours_append]
  simp [fours]
  congr 1
theorem Right.packet {N : Nat} {l : List UInt8} (h : Right N l) (hN : N ≤ 8) : l = (fieldsOf N l).packet ∧ RightOp N (fieldsOf N l) := by
 obtain ⟨o, ho⟩ : ∃ o, fieldsOf N l = o := ⟨_, rfl⟩
 have hlen : 19 + 4 * N ≤ l.length := by rcases h.size with h1 | h1 <;> omega
 have s1 := split1 l 0 (by omega)
 have s2 := split1 l 1 (by omega)
 have s3 := split4 l 2 (by omega)
 have s4 := split4 l 6 (by omega)
 have s5 := splits l N 10 (by omega)
 have s6 := split4 l (10 + 4 * N) (by omega)
 have s7 := split1 l (14 + 4 * N) (by omega)
 rw [List.drop_zero] at s1
 rw [show 10 + 4 * N + 4 = 14 + 4 * N by omega] at s6
 rw [show 14 + 4 * N + 1 = 15 + 4 * N by omega] at s7
 have hsn : o.seen = (List.range N).map fun i => rd4 l (10 + 4 * i) := by rw [← ho]; rfl
 have hfit : ∀ x ∈ o.seen, x < 4294967296 := by
  intro x hx
  rw [hsn] at hx
  obtain ⟨i, hi, rfl⟩ := List.mem_map.1 hx
  exact (split4 l (10 + 4 * i) (by have := List.mem_range.1 hi; omega)).2
 have k0 : o.ins = decide (rd1 l 0 = 1) := by rw [← ho]; rfl
 have k1 : o.peer = rd1 l 1 := by rw [← ho]; rfl
 have k2 : o.num = rd4 l 2 := by rw [← ho]; rfl
 have k3 : o.clock = rd4 l 6 := by rw [← ho]; rfl
 have k5 : o.nclock = rd4 l (10 + 4 * N) := by rw [← ho]; rfl
 have k6 : o.npeer = rd1 l (14 + 4 * N) := by rw [← ho]; rfl
 have k7 : o.char = if rd1 l 0 = 1 then rd4 l (15 + 4 * N) else 0 := by rw [← ho]; rfl
 have kk : o.kind = rd1 l 0 := by
  unfold Ope.kind
  rw [k0]
  rcases h.size with ⟨h1, _⟩ | ⟨h1, _⟩ <;> simp [h1]
 have hhead : ∃ R, l = packetHead o.kind o.peer o.num o.clock o.seen o.nclock o.npeer o.char ++ R ∧ R = l.drop (l.length - 4) ∧ four (rd4 l (l.length - 4)) = R := by
  have base : l = [UInt8.ofNat o.kind, UInt8.ofNat o.peer] ++ four o.num ++ four o.clock ++ fours o.seen ++ four o.nclock ++ [UInt8.ofNat o.npeer] ++ l.drop (15 + 4 * N) := by
   rw [kk, k1, k2, k3, hsn, k5, k6]
   conv => lhs; rw [s1, s2, s3.1, s4.1, s5, s6.1, s7]
   simp
  rcases h.size with ⟨h1, h2⟩ | ⟨h1, h2⟩
  ·have s8 := split4 l (15 + 4 * N) (by omega)
   have s9 := split4 l (19 + 4 * N) (by omega)
   rw [show 15 + 4 * N + 4 = 19 + 4 * N by omega] at s8
   have hl4 : l.length - 4 = 19 + 4 * N := by omega
   have hz : l.drop (19 + 4 * N + 4) = [] := List.drop_eq_nil_of_le (by omega)
   rw [hz, List.append_nil] at s9
   refine ⟨l.drop (19 + 4 * N), ?_, by rw [hl4], by rw [hl4]; exact s9.1.symm⟩
   unfold packetHead
   rw [if_pos (by rw [kk]; exact h1)]
   rw [if_pos h1] at k7
   conv => lhs; rw [base, s8.1]
   rw [k7]; simp
  ·have hl4 : l.length - 4 = 15 + 4 * N := by omega
   have s9 := split4 l (15 + 4 * N) (by omega)
   have hz : l.drop (15 + 4 * N + 4) = [] := List.drop_eq_nil_of_le (by omega)
   rw [hz, List.append_nil] at s9
   refine ⟨l.drop (15 + 4 * N), ?_, by rw [hl4], by rw [hl4]; exact s9.1.symm⟩
   unfold packetHead
   rw [if_neg (by rw [kk, h1]; decide), List.append_nil]
   exact base
 obtain ⟨R, hR, hR2, hR3⟩ := hhead
 have htake : l.take (l.length - 4) = packetHead o.kind o.peer o.num o.clock o.seen o.nclock o.npeer o.char := by
  have hRl : R.length = 4 := by rw [← hR3]; rfl
  have hll : l.length = (packetHead o.kind o.peer o.num o.clock o.seen o.nclock o.npeer o.char).length + 4 := by
   have := congrArg List.length hR
   rw [List.length_append, hRl] at this; exact this
  rw [hll, Nat.add_sub_cancel]
  conv => lhs; rw [hR]
  exact List.take_left' rfl
 have hsum := h.sum
 rw [htake] at hsum
 rw [ho]
 have e1 := h.peer
 have e2 := h.num
 have e3 := h.clock
 have e4 := h.own
 have e5 := h.npeer
 have e6 := h.begin_
 have e7 := h.char
 rw [ho] at e1 e2 e3 e4 e5 e6 e7
 refine ⟨?_, ⟨hN, e1, ⟨e2, by rw [k2]; exact s3.2⟩, ⟨e3, by rw [k3]; exact s4.2⟩, by rw [hsn]; simp, hfit, e4, ⟨by rw [k5]; exact s6.2, e5⟩, e6, ?_⟩⟩
 ·unfold Ope.packet packetOf
  rw [hsum, hR3]; exact hR
 ·cases hi : o.ins with
  | true => simpa [okChar] using e7 hi
  | false =>
   rw [hi] at k0
   have : ¬ rd1 l 0 = 1 := by simpa using k0.symm
   rw [if_neg this] at k7
   simpa using k7
theorem RightOp.right {N : Nat} {o : Ope} (h : RightOp N o) : Right N o.packet := by
 have hf := fieldsOf_packet h
 have hl := packet_length o
 have hN := h.seen
 have hk : rd1 o.packet 0 = o.kind := by
  obtain ⟨S, hS⟩ : ∃ S, S = four (sumFrom (packetHead o.kind o.peer o.num o.clock o.seen o.nclock o.npeer o.char) 0) := ⟨_, rfl⟩
  have e : o.packet = packetHead o.kind o.peer o.num o.clock o.seen o.nclock o.npeer o.char ++ S := by rw [hS]; rfl
  have := rd1_at [] ([UInt8.ofNat o.peer] ++ four o.num ++ four o.clock ++ fours o.seen ++ four o.nclock ++ [UInt8.ofNat o.npeer] ++ (if o.kind = 1 then four o.char else []) ++ S) o.kind 0 rfl (by unfold Ope.kind; split <;> omega)
  rw [e]; unfold packetHead; simpa using this
 refine ⟨?_, by rw [hf]; exact h.peer, by rw [hf]; exact h.num.1, by rw [hf]; exact h.clock.1, by rw [hf]; exact h.own, by rw [hf]; exact h.name.2, by rw [hf]; exact h.begin_, ?_, ?_⟩
 ·rw [hl, hk, hN]
  unfold Ope.kind
  cases o.ins
  ·right; simp
  ·left; simp; omega
 ·rw [hf]
  intro hins
  have := h.char
  rw [hins] at this
  simpa [okChar] using this
 ·have hs := sumFrom_lt (packetHead o.kind o.peer o.num o.clock o.seen o.nclock o.npeer o.char) 0 (by decide)
  have hpl : o.packet.length - 4 = (packetHead o.kind o.peer o.num o.clock o.seen o.nclock o.npeer o.char).length := by
   rw [hl, head_length]; omega
  rw [hpl]
  have h1 : o.packet.take (packetHead o.kind o.peer o.num o.clock o.seen o.nclock o.npeer o.char).length = packetHead o.kind o.peer o.num o.clock o.seen o.nclock o.npeer o.char := by
   unfold Ope.packet packetOf; exact List.take_left' rfl
  rw [h1]
  have := rd4_at (packetHead o.kind o.peer o.num o.clock o.seen o.nclock o.npeer o.char) [] _ _ rfl hs
  rw [List.append_nil] at this
  exact this.symm
end Go.Chorus
set_option linter.unusedVariables false
set_option linter.unusedSimpArgs false
namespace Go.Chorus
end Go.Chorus
