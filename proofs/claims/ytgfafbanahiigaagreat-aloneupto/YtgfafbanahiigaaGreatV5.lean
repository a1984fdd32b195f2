import Derived.Test.YtgfafbanahiigaaGreatWB
import Derived.Test.YtgfafbanahiigaaGreatW8
set_option linter.unusedVariables false
set_option linter.unusedSimpArgs false
namespace Go.Proofs.YtgfafbanahiigaaGreat
open Go.RowKit Go.Chorus
structure MOp where
 o : Ope
 g : Nat
 cap : Nat
def MOp.cells (m : MOp) : List Value := [.int .u8 m.o.kind, .int .u8 m.o.peer, .int .u32 m.o.num, .int .u32 m.o.clock, .slice (some ⟨m.g, 0, none⟩) m.o.seen.length m.cap, .int .u32 m.o.nclock, .int .u8 m.o.npeer, .int .i32 m.o.char]
def opsCells : List MOp → List Value
 | [] => []
 | e :: r => e.cells ++ opsCells r
theorem opsCells_length (es : List MOp) : (opsCells es).length = es.length * 8 := by
 induction es with
 | nil => rfl
 | cons e r ih => simp [opsCells, MOp.cells, ih]; omega
theorem opsCells_append (a b : List MOp) : opsCells (a ++ b) = opsCells a ++ opsCells b := by
 induction a with
 | nil => rfl
 | cons e r ih => simp [opsCells, ih, List.append_assoc]
theorem opsCells_at (es : List MOp) (i : Nat) (e : MOp) (h : es[i]? = some e) (j : Nat) (hj : j < 8) : (opsCells es)[i * 8 + j]? = e.cells[j]? := by
 induction es generalizing i with
 | nil => simp at h
 | cons x r ih =>
  cases i with
  | zero =>
   simp at h; subst h
   simp only [opsCells, Nat.zero_mul, Nat.zero_add]
   rw [List.getElem?_append_left (by simp [MOp.cells]; omega)]
  | succ i =>
   simp only [opsCells]
   rw [List.getElem?_append_right (by simp [MOp.cells]; omega)]
   have : (i + 1) * 8 + j - x.cells.length = i * 8 + j := by simp [MOp.cells]; omega
   rw [this]
   exact ih i (by simpa using h)
theorem op_oneCell (e : MOp) : ∀ v ∈ e.cells, v.oneCell' = true := by
 intro v hv; simp only [MOp.cells, List.mem_cons, List.not_mem_nil, or_false] at hv; rcases hv with rfl | rfl | rfl | rfl | rfl | rfl | rfl | rfl <;> rfl
theorem ops_oneCell (es : List MOp) : ∀ v ∈ opsCells es, v.oneCell' = true := by
 induction es with
 | nil => intro v hv; cases hv
 | cons e r ih =>
  intro v hv
  simp only [opsCells, List.mem_append] at hv
  rcases hv with hv | hv
  ·exact op_oneCell e v hv
  ·exact ih v hv
theorem info_op : (Tryz.prog.info? 115).map (fun i => (i.zero, i.size, i.bytes)) = some (some (.agg #[.int .u8 0, .int .u8 0, .int .u32 0, .int .u32 0, .slice none 0 0, .int .u32 0, .int .u8 0, .int .i32 0]), 8, 56) := by kernel_rfl
end Go.Proofs.YtgfafbanahiigaaGreat
