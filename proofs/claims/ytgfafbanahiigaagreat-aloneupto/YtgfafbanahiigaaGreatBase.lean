import Derived.WalkKit
import Derived.WalkSpells
import Derived.WalkLawsBesides
import Derived.Lib.RuneBytes
import Derived.Lib.Builder
namespace Go.Chorus
open Go.RowKit
structure Kept (S : Nat → Prop) (w w' : World) : Prop where
 os : w'.os = w.os
 tape : w'.tape = w.tape
 output : w'.output = w.output
 size : w.heap.size ≤ w'.heap.size
 block : ∀ k, k < w.heap.size → ¬ S k → w'.heap[k]? = w.heap[k]?
theorem Kept.refl (S : Nat → Prop) (w : World) : Kept S w w := ⟨rfl, rfl, rfl, Nat.le_refl _, fun _ _ _ => rfl⟩
theorem Kept.mono {S S' : Nat → Prop} {w w' : World} (h : Kept S w w') (hS : ∀ k, k < w.heap.size → S k → S' k) : Kept S' w w' :=
 ⟨h.os, h.tape, h.output, h.size, fun k hk hn => h.block k hk (fun hs => hn (hS k hk hs))⟩
theorem Kept.trans {S S' : Nat → Prop} {a b c : World} (h : Kept S a b) (k : Kept S' b c) (hS : ∀ i, i < a.heap.size → S' i → S i) : Kept S a c :=
 ⟨k.os.trans h.os, k.tape.trans h.tape, k.output.trans h.output, Nat.le_trans h.size k.size, fun i hi hn =>
  (k.block i (Nat.lt_of_lt_of_le hi h.size) (fun hs => hn (hS i hi hs))).trans (h.block i hi hn)⟩
theorem Kept.trans' {S : Nat → Prop} {a b c : World} (h : Kept S a b) (k : Kept S b c) : Kept S a c := h.trans k (fun _ _ hs => hs)
theorem Kept.none {S : Nat → Prop} {a b c : World} (h : Kept S a b) (k : Kept (fun _ => False) b c) : Kept S a c := h.trans k (fun _ _ hs => hs.elim)
theorem Kept.drew {S : Nat → Prop} {a w : World} (h : Kept S a w) : Kept S a w.drew := ⟨h.os, h.tape, h.output, h.size, h.block⟩
theorem Kept.drewN {S : Nat → Prop} {a w : World} (h : Kept S a w) (n : Nat) : Kept S a (w.drewN n) := by
 induction n with
 | zero => exact h
 | succ n ih => exact ⟨ih.os, ih.tape, ih.output, ih.size, ih.block⟩
theorem Kept.alloc {S : Nat → Prop} {a w : World} (h : Kept S a w) (o : Obj) : Kept S a (w.alloc o) :=
 h.trans (S' := fun _ => False) ⟨rfl, rfl, rfl, by simp, fun k hk _ => Below.heap_alloc _ _ _ hk⟩ (fun _ _ hs => hs.elim)
theorem Kept.setCell {S : Nat → Prop} {a w : World} (h : Kept S a w) {p : Addr} (hp : p.block < a.heap.size → S p.block) (u : Value) : Kept S a (w.setCell p u) :=
 h.trans (S' := fun k => k = p.block) ⟨rfl, rfl, rfl, by simp [World.setCell], fun _ _ hn => Below.heap_setCell _ _ _ _ hn⟩ (fun i hi hs => by subst hs; exact hp hi)
theorem Kept.of_below {B : Nat} {w w' : World} (h : Below B w w') : Kept (fun k => B ≤ k) w w' :=
 ⟨h.os, h.tape, h.output, h.size, fun k _ hn => h.block k (by omega)⟩
theorem Kept.below {S : Nat → Prop} {w w' : World} (h : Kept S w w') (B : Nat) (hB : B ≤ w.heap.size) (hS : ∀ k, S k → B ≤ k) : Below B w w' :=
 ⟨h.os, h.tape, h.output, h.size, fun k hk => h.block k (by omega) (fun hs => by have := hS k hs; omega)⟩
theorem Kept.heap {S : Nat → Prop} {w w' : World} (h : Kept S w w') {b : Nat} {o : Obj} (hb : w.heap[b]? = some o) (hS : ¬ S b) : w'.heap[b]? = some o := by
 rw [h.block b (by rcases Nat.lt_or_ge b w.heap.size with h' | h'; exact h'; simp [Array.getElem?_eq_none h'] at hb) hS]; exact hb
theorem Kept.cell {S : Nat → Prop} {w w' : World} (h : Kept S w w') {p : Addr} (hp : p.block < w.heap.size) (hS : ¬ S p.block) : w'.cell? p = w.cell? p := World.cell?_of_block (w := w) (h.block p.block hp hS)
theorem Kept.cell' {S : Nat → Prop} {w w' : World} (h : Kept S w w') {p : Addr} {v : Value} (hp : w.cell? p = some v) (hS : ¬ S p.block) : w'.cell? p = some v :=
 (h.cell (World.block_lt_of_cell? w p hp) hS).trans hp
theorem Kept.frozen {S : Nat → Prop} {w w' : World} (h : Kept S w w') {p : Addr} (hp : p.block < w.heap.size) (hS : ¬ S p.block) : w'.frozen? p = w.frozen? p := World.frozen?_of_block (w := w) (h.block p.block hp hS)
theorem lt_of_heap {w : World} {b : Nat} {o : Obj} (hb : w.heap[b]? = some o) : b < w.heap.size := by
 rcases Nat.lt_or_ge b w.heap.size with h | h
 ·exact h
 ·simp [Array.getElem?_eq_none h] at hb
theorem ownsRow_kept {S : Nat → Prop} {w w' : World} {base : Nat} {e : TypeId} {size : Nat} {v : Value} {n : Nat} {xs : List Value} (h : w.ownsRow base e size v n xs) (k : Kept S w w') (hS : ∀ b, v.ownBlock = some b → ¬ S b) : w'.ownsRow base e size v n xs := by
 refine ⟨h.1, ?_⟩
 rcases h.2 with hn | ⟨g, cap, cur, rfl, hb, hgg, rest⟩
 ·exact .inl hn
 ·exact .inr ⟨g, cap, cur, rfl, hb, k.heap hgg (hS g rfl), rest⟩
structure El where
 clock : Nat
 peer : Nat
 char : Int
 dead : Bool
def El.Fits (e : El) : Prop := e.clock < 4294967296 ∧ e.peer < 256 ∧ -2147483648 ≤ e.char ∧ e.char ≤ 2147483647
def El.cells (e : El) : List Value := [.int .u32 e.clock, .int .u8 e.peer, .int .i32 e.char, .bool e.dead]
def rowCells : List El → List Value
 | [] => []
 | e :: r => e.cells ++ rowCells r
theorem rowCells_length (es : List El) : (rowCells es).length = es.length * 4 := by
 induction es with
 | nil => rfl
 | cons e r ih => simp [rowCells, El.cells, ih]; omega
theorem rowCells_append (a b : List El) : rowCells (a ++ b) = rowCells a ++ rowCells b := by
 induction a with
 | nil => rfl
 | cons e r ih => simp [rowCells, ih, List.append_assoc]
theorem rowCells_at (es : List El) (i : Nat) (e : El) (h : es[i]? = some e) (j : Nat) (hj : j < 4) : (rowCells es)[i * 4 + j]? = e.cells[j]? := by
 induction es generalizing i with
 | nil => simp at h
 | cons x r ih =>
  cases i with
  | zero =>
   simp at h; subst h
   simp only [rowCells, Nat.zero_mul, Nat.zero_add]
   rw [List.getElem?_append_left (by simp [El.cells]; omega)]
  | succ i =>
   simp only [rowCells]
   rw [List.getElem?_append_right (by simp [El.cells]; omega)]
   have : (i + 1) * 4 + j - x.cells.length = i * 4 + j := by simp [El.cells]; omega
   rw [this]
   exact ih i (by simpa using h)
def ElemsAt (w : World) (g : Nat) (es : List El) : Prop :=
 ∀ i e, es[i]? = some e → w.cell? ⟨g, i * 4, none⟩ = some (.int .u32 e.clock) ∧ w.cell? ⟨g, i * 4 + 1, none⟩ = some (.int .u8 e.peer) ∧ w.cell? ⟨g, i * 4 + 2, none⟩ = some (.int .i32 e.char) ∧ w.cell? ⟨g, i * 4 + 3, none⟩ = some (.bool e.dead)
theorem ElemsAt.kept {S : Nat → Prop} {w w' : World} {g : Nat} {es : List El} (h : ElemsAt w g es) (k : Kept S w w') (hS : ¬ S g) : ElemsAt w' g es := fun i e he => by
 obtain ⟨h0, h1, h2, h3⟩ := h i e he
 exact ⟨k.cell' h0 hS, k.cell' h1 hS, k.cell' h2 hS, k.cell' h3 hS⟩
def findFrom (c p : Int) : List El → Nat → Int
 | [], _ => -1
 | e :: r, k => if (e.clock : Int) = c ∧ (e.peer : Int) = p then k else findFrom c p r (k + 1)
theorem findFrom_drop (c p : Int) (es : List El) (k : Nat) (e : El) (h : es[k]? = some e) : findFrom c p (es.drop k) k = if (e.clock : Int) = c ∧ (e.peer : Int) = p then (k : Int) else findFrom c p (es.drop (k + 1)) (k + 1) := by
 have hk : k < es.length := (List.getElem?_eq_some_iff.1 h).1
 have he : es[k] = e := (List.getElem?_eq_some_iff.1 h).2
 rw [List.drop_eq_getElem_cons hk, he]; rfl
theorem findFrom_range (c p : Int) (es : List El) (k : Nat) : findFrom c p es k = -1 ∨ ((k : Int) ≤ findFrom c p es k ∧ findFrom c p es k < k + es.length) := by
 induction es generalizing k with
 | nil => left; rfl
 | cons e r ih =>
  unfold findFrom
  split
  ·right; simp; omega
  ·rcases ih (k + 1) with h | ⟨h1, h2⟩
   ·left; exact h
   ·right; simp; omega
theorem findFrom_lo (c p : Int) (es : List El) (k : Nat) : -1 ≤ findFrom c p es k := by
 rcases findFrom_range c p es k with h | ⟨h, _⟩ <;> omega
theorem findFrom_hi (c p : Int) (es : List El) : findFrom c p es 0 < es.length ∨ es.length = 0 := by
 rcases findFrom_range c p es 0 with h | ⟨_, h⟩ <;> omega
theorem findFrom_le (c p : Int) (es : List El) : findFrom c p es 0 ≤ es.length := by
 rcases findFrom_range c p es 0 with h | ⟨_, h⟩ <;> omega
theorem ret_int {k : IntKind} {a b : Int} (h : a = b) : Ending.returned (.int k a) = .returned (.int k b) := by rw [h]
theorem ret2_int {k : IntKind} {a b : Int} {v : Value} (h : a = b) : Ending.returned (.tuple #[.int k a, v]) = .returned (.tuple #[.int k b, v]) := by rw [h]
theorem ret_str {a b : ByteArray} (h : a = b) : Ending.returned (.string a) = .returned (.string b) := by rw [h]
theorem ret_bool {a b : Bool} (h : a = b) : Ending.returned (.bool a) = .returned (.bool b) := by rw [h]
def RowV (w : World) (v : Value) (es : List El) : Prop :=
 ∃ a cp, v = .slice a es.length cp ∧ (es ≠ [] → ∃ g, a = some ⟨g, 0, none⟩ ∧ ElemsAt w g es)
theorem RowV.kept {S : Nat → Prop} {w w' : World} {v : Value} {es : List El} (h : RowV w v es) (k : Kept S w w') (hS : ∀ b, v.ownBlock = some b → ¬ S b) : RowV w' v es := by
 obtain ⟨a, cp, rfl, h⟩ := h
 refine ⟨a, cp, rfl, fun hne => ?_⟩
 obtain ⟨g, rfl, he⟩ := h hne
 exact ⟨g, rfl, he.kept k (hS g rfl)⟩
def textBytes : List El → List UInt8
 | [] => []
 | e :: r => if e.dead then textBytes r else Lib.encodeRune e.char ++ textBytes r
theorem textBytes_append (a b : List El) : textBytes (a ++ b) = textBytes a ++ textBytes b := by
 induction a with
 | nil => rfl
 | cons e r ih => simp only [List.cons_append, textBytes, ih]; split <;> simp
theorem textBytes_take (es : List El) (k : Nat) (e : El) (h : es[k]? = some e) : textBytes (es.take (k + 1)) = textBytes (es.take k) ++ if e.dead then [] else Lib.encodeRune e.char := by
 have hk : k < es.length := (List.getElem?_eq_some_iff.1 h).1
 have he : es[k] = e := (List.getElem?_eq_some_iff.1 h).2
 rw [List.take_succ_eq_append_getElem hk, textBytes_append, he]
 simp only [textBytes]
 split <;> simp
theorem textBytes_len (es : List El) : (textBytes es).length ≤ 4 * es.length := by
 induction es with
 | nil => simp [textBytes]
 | cons e r ih =>
  have := Lib.runeCells_le e.char
  rw [Lib.runeCells_length] at this
  unfold textBytes
  split <;> simp <;> omega
theorem byteCells_append (a b : List UInt8) : Lib.byteCells (a ++ b) = Lib.byteCells a ++ Lib.byteCells b := by simp [Lib.byteCells]
theorem byteCells_length (a : List UInt8) : (Lib.byteCells a).length = a.length := by simp [Lib.byteCells]
theorem isBuilder_kept {S : Nat → Prop} {T e : TypeId} {B b : Nat} {bs : List Value} {w w' : World} (h : Lib.IsBuilder T e B b bs w) (k : Kept S w w') (hS : ∀ i, B ≤ i → i < w.heap.size → ¬ S i) : Lib.IsBuilder T e B b bs w' := by
 rcases h with ⟨hB, v, hb, hown, hne⟩ | ⟨hB, v, hb, hown, hne⟩
 ·exact Or.inl ⟨hB, v, k.heap hb (hS b hB (lt_of_heap hb)), ownsRow_kept hown k (fun j hj => hS j (hown.lt j hj).1 (hown.lt j hj).2), hne⟩
 ·exact Or.inr ⟨hB, v, k.heap hb (hS b hB (lt_of_heap hb)), ownsRow_kept hown k (fun j hj => hS j (hown.lt j hj).1 (hown.lt j hj).2), hne⟩
theorem heap_set_same {w : World} {b : Nat} {cs : Array Value} {t : TypeId} {f : Nat × Nat} (h : w.heap[b]? = some (.cells cs t f)) (o : Nat) (v : Value) : (w.setCell ⟨b, o, none⟩ v).heap[b]? = some (.cells (cs.setIfInBounds o v) t f) := by
 simp [World.setCell, Array.getElem?_modify, h]
def u32s (l : List Nat) : Array Value := (l.map fun (n : Nat) => Value.int .u32 n).toArray
def i64s (l : List Nat) : Array Value := (l.map fun (n : Nat) => Value.int .i64 n).toArray
theorem u32s_at (l : List Nat) (i : Nat) : (u32s l)[i]? = l[i]?.map fun (n : Nat) => Value.int .u32 n := by simp [u32s]
theorem i64s_at (l : List Nat) (i : Nat) : (i64s l)[i]? = l[i]?.map fun (n : Nat) => Value.int .i64 n := by simp [i64s]
theorem made_zeros (n : Nat) : madeCells #[Value.int .u32 0] (n * 1) = u32s (List.replicate n 0) := by
 apply Array.ext
 ·simp [madeCells, u32s]
 ·intro i h1 h2
  simp [madeCells, u32s, Nat.mod_one]
theorem made_zeros64 (n : Nat) : madeCells #[Value.int .i64 0] (n * 1) = i64s (List.replicate n 0) := by
 apply Array.ext
 ·simp [madeCells, i64s]
 ·intro i h1 h2
  simp [madeCells, i64s, Nat.mod_one]
def filled (l : List Nat) (k : Nat) : List Nat := l.take k ++ List.replicate (l.length - k) 0
theorem filled_zero (l : List Nat) : filled l 0 = List.replicate l.length 0 := by simp [filled]
theorem filled_all (l : List Nat) : filled l l.length = l := by simp [filled]
theorem filled_length (l : List Nat) (k : Nat) (h : k ≤ l.length) : (filled l k).length = l.length := by simp [filled]; omega
theorem filled_succ (l : List Nat) (k : Nat) (n : Nat) (h : l[k]? = some n) : filled l (k + 1) = (filled l k).set k n := by
 have hk : k < l.length := (List.getElem?_eq_some_iff.1 h).1
 have he : l[k] = n := (List.getElem?_eq_some_iff.1 h).2
 unfold filled
 rw [List.take_succ_eq_append_getElem hk, he, List.set_append_right _ _ (by simp; omega)]
 have e1 : l.length - k = (l.length - (k + 1)) + 1 := by omega
 have e2 : k - (l.take k).length = 0 := by simp; omega
 rw [e1, e2, List.replicate_succ, List.set_cons_zero]; simp
theorem i64s_filled (l : List Nat) (k : Nat) (n : Nat) (h : l[k]? = some n) : i64s (filled l (k + 1)) = (i64s (filled l k)).setIfInBounds k (.int .i64 n) := by
 rw [filled_succ l k n h]
 simp [i64s, List.map_set]
def pickN (c n : Int) : Int := (if c < 0 then -(c + 1) else c) % n
theorem pickN_lo (c n : Int) (h : 0 < n) : 0 ≤ pickN c n := Int.emod_nonneg _ (by omega)
theorem pickN_hi (c n : Int) (h : 0 < n) : pickN c n < n := Int.emod_lt_of_pos _ h
end Go.Chorus
