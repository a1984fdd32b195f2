/- Reading a packet, in the document's words; of no program. -/
import Derived.Test.YtgfafbanahiigaaM5
import Derived.Test.YtgfafbanahiigaaM6
set_option linter.unusedVariables false
set_option linter.unusedSimpArgs false
namespace Go.Chorus

/-- A number of bytes, the high ones first. -/
def readBE (l : List UInt8) : Nat := l.foldl (fun n b => 256 * n + b.toNat) 0

/-- The four bytes at a place. -/
def rd4 (l : List UInt8) (i : Nat) : Nat := readBE ((l.drop i).take 4)

/-- The byte at a place. -/
def rd1 (l : List UInt8) (i : Nat) : Nat := (l.getD i 0).toNat

theorem readBE_four (n : Nat) (hn : n < 4294967296) : readBE (four n) = n := by
  simp only [readBE, four, List.foldl_cons, List.foldl_nil, UInt8.toNat_ofNat']
  omega

theorem rd4_at (a r : List UInt8) (n i : Nat) (hi : i = a.length) (hn : n < 4294967296) : rd4 (a ++ four n ++ r) i = n := by
  subst hi
  unfold rd4
  rw [List.append_assoc, List.drop_left, List.take_left' (show (four n).length = 4 from rfl), readBE_four n hn]

theorem rd1_at (a r : List UInt8) (n i : Nat) (hi : i = a.length) (hn : n < 256) : rd1 (a ++ [UInt8.ofNat n] ++ r) i = n := by
  subst hi
  unfold rd1
  rw [List.append_assoc, List.getD_eq_getElem?_getD, List.getElem?_append_right (Nat.le_refl _)]
  simp
  omega

/-- An operation that a packet may tell, in a group of N. -/
structure RightOp (N : Nat) (o : Ope) : Prop where
  group : N ≤ 8
  peer : o.peer < N
  num : 1 ≤ o.num ∧ o.num < 4294967296
  clock : 1 ≤ o.clock ∧ o.clock < 4294967296
  seen : o.seen.length = N
  fits : ∀ x ∈ o.seen, x < 4294967296
  own : sn o o.peer + 1 = o.num
  name : o.nclock < 4294967296 ∧ o.npeer < N
  begin_ : o.nclock = 0 → o.ins = true ∧ o.npeer = 0
  char : if o.ins then (o.char < 55296 ∨ (57344 ≤ o.char ∧ o.char ≤ 1114111)) else o.char = 0

/-- The fields of the bytes. -/
def fieldsOf (N : Nat) (l : List UInt8) : Ope :=
  ⟨decide (rd1 l 0 = 1), rd1 l 1, rd4 l 2, rd4 l 6, (List.range N).map fun i => rd4 l (10 + 4 * i), rd4 l (10 + 4 * N), rd1 l (14 + 4 * N), if rd1 l 0 = 1 then rd4 l (15 + 4 * N) else 0⟩

theorem head_length (o : Ope) : (packetHead o.kind o.peer o.num o.clock o.seen o.nclock o.npeer o.char).length = 15 + 4 * o.seen.length + if o.ins then 4 else 0 := by
  unfold packetHead Ope.kind
  cases o.ins <;> simp [four, fours_length] <;> omega

theorem packet_length (o : Ope) : o.packet.length = 19 + 4 * o.seen.length + if o.ins then 4 else 0 := by
  unfold Ope.packet packetOf
  rw [List.length_append, head_length]
  simp [four]; omega

/-- What a right operation's packet tells. -/
theorem fieldsOf_packet {N : Nat} {o : Ope} (h : RightOp N o) : fieldsOf N o.packet = o := by
  have hk : o.kind < 256 := by unfold Ope.kind; split <;> omega
  have hp := h.peer
  have hg := h.group
  have hN := h.seen
  obtain ⟨S, hS⟩ : ∃ S, S = four (sumFrom (packetHead o.kind o.peer o.num o.clock o.seen o.nclock o.npeer o.char) 0) := ⟨_, rfl⟩
  have e : o.packet = packetHead o.kind o.peer o.num o.clock o.seen o.nclock o.npeer o.char ++ S := by rw [hS]; rfl
  have e0 : rd1 o.packet 0 = o.kind := by
    have := rd1_at [] ([UInt8.ofNat o.peer] ++ four o.num ++ four o.clock ++ fours o.seen ++ four o.nclock ++ [UInt8.ofNat o.npeer] ++ (if o.kind = 1 then four o.char else []) ++ S) o.kind 0 rfl hk
    rw [e]; unfold packetHead; simpa using this
  have e1 : rd1 o.packet 1 = o.peer := by
    have := rd1_at [UInt8.ofNat o.kind] (four o.num ++ four o.clock ++ fours o.seen ++ four o.nclock ++ [UInt8.ofNat o.npeer] ++ (if o.kind = 1 then four o.char else []) ++ S) o.peer 1 rfl (by omega)
    rw [e]; unfold packetHead; simpa using this
  have e2 : rd4 o.packet 2 = o.num := by
    have := rd4_at [UInt8.ofNat o.kind, UInt8.ofNat o.peer] (four o.clock ++ fours o.seen ++ four o.nclock ++ [UInt8.ofNat o.npeer] ++ (if o.kind = 1 then four o.char else []) ++ S) o.num 2 rfl h.num.2
    rw [e]; unfold packetHead; simpa using this
  have e3 : rd4 o.packet 6 = o.clock := by
    have := rd4_at ([UInt8.ofNat o.kind, UInt8.ofNat o.peer] ++ four o.num) (fours o.seen ++ four o.nclock ++ [UInt8.ofNat o.npeer] ++ (if o.kind = 1 then four o.char else []) ++ S) o.clock 6 rfl h.clock.2
    rw [e]; unfold packetHead; simpa using this
  have e4 : ∀ i x, o.seen[i]? = some x → rd4 o.packet (10 + 4 * i) = x := by
    intro i x hx
    have hi : i < o.seen.length := (List.getElem?_eq_some_iff.1 hx).1
    have hxe : o.seen[i] = x := (List.getElem?_eq_some_iff.1 hx).2
    have hsp : fours o.seen = fours (o.seen.take i) ++ four x ++ fours (o.seen.drop (i + 1)) := by
      conv => lhs; rw [← List.take_append_drop i o.seen, List.drop_eq_getElem_cons hi, hxe]
      rw [fours_append]; simp [fours]
    have := rd4_at ([UInt8.ofNat o.kind, UInt8.ofNat o.peer] ++ four o.num ++ four o.clock ++ fours (o.seen.take i)) (fours (o.seen.drop (i + 1)) ++ four o.nclock ++ [UInt8.ofNat o.npeer] ++ (if o.kind = 1 then four o.char else []) ++ S) x (10 + 4 * i) (by
      simp only [List.length_append, fours_length, List.length_take, four, List.length_cons, List.length_nil]; omega) (h.fits x (List.mem_of_getElem? hx))
    rw [e]; unfold packetHead; rw [hsp]; simpa using this
  have e5 : rd4 o.packet (10 + 4 * N) = o.nclock := by
    have := rd4_at ([UInt8.ofNat o.kind, UInt8.ofNat o.peer] ++ four o.num ++ four o.clock ++ fours o.seen) ([UInt8.ofNat o.npeer] ++ (if o.kind = 1 then four o.char else []) ++ S) o.nclock (10 + 4 * N) (by
      simp only [List.length_append, fours_length, four, List.length_cons, List.length_nil]; omega) h.name.1
    rw [e]; unfold packetHead; simpa using this
  have e6 : rd1 o.packet (14 + 4 * N) = o.npeer := by
    have := rd1_at ([UInt8.ofNat o.kind, UInt8.ofNat o.peer] ++ four o.num ++ four o.clock ++ fours o.seen ++ four o.nclock) ((if o.kind = 1 then four o.char else []) ++ S) o.npeer (14 + 4 * N) (by
      simp only [List.length_append, fours_length, four, List.length_cons, List.length_nil]; omega) (by have := h.name.2; omega)
    rw [e]; unfold packetHead; simpa using this
  have e7 : (if rd1 o.packet 0 = 1 then rd4 o.packet (15 + 4 * N) else 0) = o.char := by
    rw [e0]
    have hc := h.char
    cases hi : o.ins with
    | false =>
      rw [hi] at hc
      rw [if_neg (by unfold Ope.kind; rw [hi]; simp)]
      simpa using hc.symm
    | true =>
      rw [hi] at hc
      have hk1 : o.kind = 1 := by unfold Ope.kind; rw [hi]; rfl
      rw [if_pos hk1]
      have := rd4_at ([UInt8.ofNat o.kind, UInt8.ofNat o.peer] ++ four o.num ++ four o.clock ++ fours o.seen ++ four o.nclock ++ [UInt8.ofNat o.npeer]) S o.char (15 + 4 * N) (by
        simp only [List.length_append, fours_length, four, List.length_cons, List.length_nil]; omega) (by simp only [if_true] at hc; omega)
      rw [e]; unfold packetHead; rw [if_pos hk1]; simpa using this
  have e8 : ((List.range N).map fun i => rd4 o.packet (10 + 4 * i)) = o.seen := by
    apply List.ext_getElem?
    intro i
    rw [List.getElem?_map]
    by_cases hi : i < N
    · rw [List.getElem?_range hi]
      obtain ⟨x, hx⟩ : ∃ x, o.seen[i]? = some x := ⟨_, List.getElem?_eq_getElem (by omega)⟩
      rw [hx]; simp [e4 i x hx]
    · rw [List.getElem?_eq_none (by simp; omega), List.getElem?_eq_none (by omega)]; rfl
  have e9 : decide (rd1 o.packet 0 = 1) = o.ins := by
    rw [e0]; unfold Ope.kind; cases o.ins <;> simp
  unfold fieldsOf
  rw [e9, e1, e2, e3, e8, e5, e6, e7]

end Go.Chorus
