import Derived.Laws.IdiomStrings
import Derived.Lib.Small
import Derived.Lib.QuietBelow
import Derived.Test.YtgfafbanahiigaaGreatInfo
namespace Go.Proofs.YtgfafbanahiigaaGreat
open Go.RowKit Go.Chorus
theorem info_relem : (Tryz.prog.info? 78).map (fun i => (i.zero, i.size, i.bytes)) = some (some (.agg #[.int .i64 0, .int .i64 0, .int .i64 0, .bool false]), 4, 32) := by kernel_rfl
theorem info_rop : (Tryz.prog.info? 119).map (fun i => (i.zero, i.size, i.bytes)) = some (some (.agg #[.bool false, .int .i64 0, .int .i64 0, .int .i64 0, .slice none 0 0, .int .i64 0, .int .i64 0, .int .i64 0, .string ⟨#[]⟩]), 9, 96) := by kernel_rfl
theorem info_rops : (Tryz.prog.info? 72).map (fun i => (i.zero, i.size, i.bytes)) = some (some (.slice none 0 0), 1, 24) := by kernel_rfl
end Go.Proofs.YtgfafbanahiigaaGreat
set_option linter.unusedVariables false
set_option linter.unusedSimpArgs false
namespace Go.Proofs.YtgfafbanahiigaaGreat
open Go.RowKit Go.Chorus
theorem conv_new (w : World) (l : List UInt8) (cs : Array Value) (n c : Nat) (hn : n = l.length) (hcs : cs = (Lib.byteCells l).toArray) : (convert 89 9 (.slice (some ⟨w.heap.size, 0, none⟩) n c)).run Tryz.prog (w.alloc (.cells cs 5)) = .ok (.string ⟨l.toArray⟩) (w.alloc (.cells cs 5)) := by
 subst hn
 exact run_convert_bytes_back _ 89 9 5 ⟨w.heap.size, 0, none⟩ c l Tryz.underlying89 Tryz.underlying5 Tryz.underlying9 (fun j hj => by
  rw [Addr.add_lit, Nat.zero_add, Lib.cell_of_heap (heap_alloc_new w _), hcs]
  simp [Lib.byteCells, List.getElem?_eq_getElem hj])
set_option maxHeartbeats 1000000 in
theorem rfour_any (n : Nat) (w : World) (hn : n < 4294967296) :
  Calls Tryz.prog 81 #[.int .i64 n] w fun e' w' => e' = .returned (.string ⟨(four n).toArray⟩) ∧ Kept (fun _ => False) w w' := by
 have hcells : Lib.byteCells (four n) = [.int .u8 ((n : Int) / 16777216), .int .u8 ((n : Int) / 65536 % 256), .int .u8 ((n : Int) / 256 % 256), .int .u8 ((n : Int) % 256)] := by
  rw [four_cells]
  have e1 : ((n / 16777216 % 256 : Nat) : Int) = (n : Int) / 16777216 := by omega
  have e2 : ((n / 65536 % 256 : Nat) : Int) = (n : Int) / 65536 % 256 := by omega
  have e3 : ((n / 256 % 256 : Nat) : Int) = (n : Int) / 256 % 256 := by omega
  have e4 : ((n % 256 : Nat) : Int) = (n : Int) % 256 := by omega
  rw [e1, e2, e3, e4]
 have hcv := conv_new w (four n) #[.int .u8 ((n : Int) / 16777216), .int .u8 ((n : Int) / 65536 % 256), .int .u8 ((n : Int) / 256 % 256), .int .u8 ((n : Int) % 256)] 4 4 rfl (by rw [hcells])
 clear hcells
 go_enter Tryz.func81, Tryz.ntmps81
 go_wp2
 go_ret
 exact ⟨rfl, (Kept.refl _ w).alloc _⟩
set_option maxHeartbeats 1000000 in
theorem rsum_any (l : List UInt8) (w : World) (hl : l.length ≤ 4294967296) :
  Calls Tryz.prog 82 #[.string ⟨l.toArray⟩] w fun e' w' => e' = .returned (.int .i64 (sumFrom l 0 : Nat)) ∧ w' = w := by
 obtain ⟨S, hS⟩ : ∃ S : ByteArray, S = ⟨l.toArray⟩ := ⟨_, rfl⟩
 have hsz : S.size = l.length := by rw [hS]; rfl
 rw [← hS]
 go_enter Tryz.func82, Tryz.ntmps82
 go_wp2
 go_loop [3, 4] (fun s i => ∃ k : Nat, k ≤ l.length ∧ i = .int .i64 k ∧ s = .int .u32 (sumFrom (l.take k) 0 : Nat)) (fun _ i => l.length - (intOf i).toNat)
 case atStart => exact ⟨0, Nat.zero_le _, rfl, rfl⟩
 case round =>
  obtain ⟨k, hk, rfl, rfl⟩ := hrel
  by_cases hlt : k < l.length
  ·have hlt2 : k < S.size := by omega
   obtain ⟨b, hek⟩ : ∃ b, l[k]? = some b := ⟨_, List.getElem?_eq_getElem hlt⟩
   have hidx : Hid (S[k] = b) := by
    show S[k] = b
    have := (List.getElem?_eq_some_iff.1 hek).2
    subst hS
    exact this
   have hs : Hid _ := sum_take l k b hek
   have hs0 := sumFrom_lt (l.take k) 0 (by decide)
   clear hek hS
   go_wp2
   go_round
   case rel =>
    refine ⟨k + 1, by omega, by go_num, ?_⟩
    rw [hs.out]
    have hb := b.toNat_lt
    simp only [hidx.out]
    congr 1
    omega
   case measure => simp [intOf]; omega
  ·have hge : ¬ k < S.size := by omega
   have hs0 := sumFrom_lt (l.take k) 0 (by decide)
   go_wp2
   go_ret
   have hke : k = l.length := by omega
   subst hke
   exact ⟨ret_int (by rw [List.take_length]), rfl⟩
set_option maxHeartbeats 1000000 in
theorem rcharacter_any (r : Int) (w : World) (h1 : -9223372036854775808 ≤ r) (h2 : r ≤ 9223372036854775807) :
  Calls Tryz.prog 46 #[.int .i64 r] w fun e' w' => e' = .returned (.bool (Lib.validRune r)) ∧ w' = w := by
 by_cases c1 : (0 ≤ r)
 all_goals by_cases c2 : (r ≤ 55295)
 all_goals by_cases c3 : (57344 ≤ r)
 all_goals by_cases c4 : (r ≤ 1114111)
 all_goals try (exfalso; omega)
 all_goals go_enter Tryz.func46, Tryz.ntmps46
 all_goals go_wp2
 all_goals go_ret
 all_goals refine ⟨ret_bool ?_, rfl⟩
 all_goals (unfold Lib.validRune; simp; omega)
def rcellsOf (e : El) : List Value := [.int .i64 e.clock, .int .i64 e.peer, .int .i64 e.char, .bool e.dead]
def rrow : List El → List Value
 | [] => []
 | e :: r => rcellsOf e ++ rrow r
theorem rrow_length (es : List El) : (rrow es).length = es.length * 4 := by
 induction es with
 | nil => rfl
 | cons e r ih => simp [rrow, rcellsOf, ih]; omega
theorem rrow_append (a b : List El) : rrow (a ++ b) = rrow a ++ rrow b := by
 induction a with
 | nil => rfl
 | cons e r ih => simp [rrow, ih, List.append_assoc]
theorem rrow_at (es : List El) (i : Nat) (e : El) (h : es[i]? = some e) (j : Nat) (hj : j < 4) : (rrow es)[i * 4 + j]? = (rcellsOf e)[j]? := by
 induction es generalizing i with
 | nil => simp at h
 | cons x r ih =>
  cases i with
  | zero =>
   simp at h; subst h
   simp only [rrow, Nat.zero_mul, Nat.zero_add]
   rw [List.getElem?_append_left (by simp [rcellsOf]; omega)]
  | succ i =>
   simp only [rrow]
   rw [List.getElem?_append_right (by simp [rcellsOf]; omega)]
   have : (i + 1) * 4 + j - (rcellsOf x).length = i * 4 + j := by simp [rcellsOf]; omega
   rw [this]
   exact ih i (by simpa using h)
theorem rrow_oneCell (es : List El) : ∀ v ∈ rrow es, v.oneCell' = true := by
 induction es with
 | nil => intro v hv; cases hv
 | cons e r ih =>
  intro v hv
  simp only [rrow, rcellsOf, List.mem_append, List.mem_cons, List.not_mem_nil, or_false] at hv
  rcases hv with (rfl | rfl | rfl | rfl) | hv
  ·rfl
  ·rfl
  ·rfl
  ·rfl
  ·exact ih v hv
abbrev OpeV := Ope × Value
def opCells (o : OpeV) : List Value := [.bool o.1.ins, .int .i64 o.1.peer, .int .i64 o.1.num, .int .i64 o.1.clock, o.2, .int .i64 o.1.nclock, .int .i64 o.1.npeer, .int .i64 o.1.char, .string ⟨o.1.packet.toArray⟩]
def ropsCells : List OpeV → List Value
 | [] => []
 | o :: r => opCells o ++ ropsCells r
theorem ropsCells_length (es : List OpeV) : (ropsCells es).length = es.length * 9 := by
 induction es with
 | nil => rfl
 | cons e r ih => simp [ropsCells, opCells, ih]; omega
theorem ropsCells_append (a b : List OpeV) : ropsCells (a ++ b) = ropsCells a ++ ropsCells b := by
 induction a with
 | nil => rfl
 | cons e r ih => simp [ropsCells, ih, List.append_assoc]
def RSeenAt (w : World) (F : Nat → Prop) (v : Value) (l : List Nat) : Prop := ∃ g cp cur, v = .slice (some ⟨g, 0, none⟩) l.length cp ∧ F g ∧ w.heap[g]? = some (.cells cur 3 (0, 0)) ∧ ∀ (i n : Nat), l[i]? = some n → cur[i]? = some (.int .i64 (n : Int))
structure RSt where
 me : Nat
 clock : Nat
 row : List El
 ops : List (List OpeV)
 held : List OpeV
def RSt.known (s : RSt) : List Nat := s.ops.map List.length
structure RefAt (w : World) (F : Nat → Prop) (bp : Nat) (s : RSt) (rv : Value) (bo : Nat) (vs : List Value) (hv : Value) : Prop where
 block : w.heap[bp]? = some (.cells #[.int .i64 s.me, .int .i64 s.ops.length, .int .i64 s.clock, rv, .slice (some ⟨bo, 0, none⟩) s.ops.length s.ops.length, hv] 74 (0, 0))
 row : w.ownsRow 0 78 4 rv s.row.length (rrow s.row)
 opsB : w.heap[bo]? = some (.cells vs.toArray 72 (0, 0))
 opsN : vs.length = s.ops.length
 opsAt : ∀ (i : Nat) (v : Value) (l : List OpeV), vs[i]? = some v → s.ops[i]? = some l → w.ownsRow 0 119 9 v l.length (ropsCells l)
 heldAt : w.ownsRow 0 119 9 hv s.held.length (ropsCells s.held)
 seenAt : ∀ o ∈ s.held, RSeenAt w F o.2 o.1.seen
 inP : F bp
 inO : F bo
 inR : ∀ k, rv.ownBlock = some k → F k
 inV : ∀ (i : Nat) (v : Value), vs[i]? = some v → ∀ k, v.ownBlock = some k → F k
 inH : ∀ k, hv.ownBlock = some k → F k
 apart : ∀ (i j : Nat) (v u : Value), vs[i]? = some v → vs[j]? = some u → i ≠ j → ∀ k, v.ownBlock = some k → u.ownBlock ≠ some k
 apartH : ∀ (i : Nat) (v : Value), vs[i]? = some v → ∀ k, v.ownBlock = some k → hv.ownBlock ≠ some k
theorem RefAt.kept {S : Nat → Prop} {w w' : World} {F : Nat → Prop} {bp : Nat} {s : RSt} {rv : Value} {bo : Nat} {vs : List Value} {hv : Value} (h : RefAt w F bp s rv bo vs hv) (k : Kept S w w') (hS : ∀ b, F b → ¬ S b) : RefAt w' F bp s rv bo vs hv where
 block := k.heap h.block (hS _ h.inP)
 row := ownsRow_kept h.row k (fun b hb => hS b (h.inR b hb))
 opsB := k.heap h.opsB (hS _ h.inO)
 opsN := h.opsN
 opsAt := fun i v l hi hl => ownsRow_kept (h.opsAt i v l hi hl) k (fun b hb => hS b (h.inV i v hi b hb))
 heldAt := ownsRow_kept h.heldAt k (fun b hb => hS b (h.inH b hb))
 seenAt := fun o ho => by
  obtain ⟨g, cp, cur, h1, h2, h3, h4⟩ := h.seenAt o ho
  exact ⟨g, cp, cur, h1, h2, k.heap h3 (hS _ h2), h4⟩
 inP := h.inP
 inO := h.inO
 inR := h.inR
 inV := h.inV
 inH := h.inH
 apart := h.apart
 apartH := h.apartH
theorem RefAt.cells {w : World} {F : Nat → Prop} {bp : Nat} {s : RSt} {rv : Value} {bo : Nat} {vs : List Value} {hv : Value} (h : RefAt w F bp s rv bo vs hv) :
  w.cell? ⟨bp, 0, none⟩ = some (.int .i64 s.me) ∧ w.cell? ⟨bp, 1, none⟩ = some (.int .i64 s.ops.length) ∧ w.cell? ⟨bp, 2, none⟩ = some (.int .i64 s.clock) ∧ w.cell? ⟨bp, 3, none⟩ = some rv ∧ w.cell? ⟨bp, 4, none⟩ = some (.slice (some ⟨bo, 0, none⟩) s.ops.length s.ops.length) ∧ w.cell? ⟨bp, 5, none⟩ = some hv := by
 refine ⟨?_, ?_, ?_, ?_, ?_, ?_⟩ <;> (rw [Lib.cell_of_heap h.block]; rfl)
theorem rmade_nils (n : Nat) : madeCells #[Value.slice none 0 0] (n * 1) = (List.replicate n (Value.slice none 0 0)).toArray := by
 apply Array.ext
 ·simp [madeCells]
 ·intro i h1 h2
  simp [madeCells, Nat.mod_one]
def newSt (peer peers : Nat) : RSt := ⟨peer, 0, [], List.replicate peers [], []⟩
set_option maxHeartbeats 400000 in
theorem rnew_any (peer peers : Nat) (w : World) (h1 : 1 ≤ peers) (h2 : peers ≤ 8) (h4 : peer < peers) :
  Calls Tryz.prog 10 #[.int .i64 peer, .int .i64 peers] w fun e' w' => ∃ bp bo, e' = .returned (.tuple #[.pointer (some ⟨bp, 0, none⟩), .int .i64 0]) ∧
   RefAt w' (fun k => w.heap.size ≤ k ∧ k < w'.heap.size) bp (newSt peer peers) (.slice none 0 0) bo (List.replicate peers (.slice none 0 0)) (.slice none 0 0) ∧ Kept (fun _ => False) w w' := by
 obtain ⟨i0, hi, hz0, hz1, hz2⟩ := info_parts info_rops
 have hmk : ∀ w : World, (Instr.makeSlice 70 (.int .i64 peers) (.int .i64 peers)).run Tryz.prog w = .ok (.slice (some ⟨w.heap.size, 0, none⟩) peers peers) (w.alloc (.cells (List.replicate peers (Value.slice none 0 0)).toArray 72)) := fun w => by
  rw [run_make w 70 72 i0 (.slice none 0 0) Tryz.underlying70 hi hz0 .i64 .i64 peers peers (by omega) (by omega) (by rw [hz2]; omega) (by omega), hz1, ← rmade_nils]; rfl
 have e1 : decide ((peers : Int) < 1) = false := by rw [decide_eq_false_iff_not]; omega
 have e2 : decide ((8 : Int) < peers) = false := by rw [decide_eq_false_iff_not]; omega
 have e3 : decide ((peer : Int) < 0) = false := by rw [decide_eq_false_iff_not]; omega
 have e4 : decide ((peers : Int) ≤ peer) = false := by simpa using h4
 clear hi hz0 hz1 hz2
 go_enter Tryz.func10, Tryz.ntmps10
 go_wp2
 go_ret2
 refine ⟨w.heap.size + 1, w.heap.size, rfl, ⟨?_, World.ownsRow_nil _ _ _ _, ?_, ?_, ?_, World.ownsRow_nil _ _ _ _, ?_, ?_, ?_, ?_, ?_, ?_, ?_, ?_⟩, ((Kept.refl _ _).alloc _).alloc _⟩
 ·have := heap_alloc_new (w.alloc (Obj.cells (List.replicate peers (Value.slice none 0 0)).toArray 72)) (Obj.cells #[Value.int .i64 peer, Value.int .i64 peers, Value.int .i64 0, Value.slice none 0 0, Value.slice (some ⟨w.heap.size, 0, none⟩) peers peers, Value.slice none 0 0] 74)
  simpa [newSt] using this
 ·rw [Below.heap_alloc _ _ _ (by simp)]; exact heap_alloc_new w _
 ·simp [newSt]
 ·intro i v l hv hl
  have e1 : v = .slice none 0 0 := List.eq_of_mem_replicate (List.mem_of_getElem? hv)
  have e2 : l = [] := List.eq_of_mem_replicate (List.mem_of_getElem? hl)
  subst e1 e2
  exact World.ownsRow_nil _ _ _ _
 ·intro o ho; cases ho
 ·exact ⟨by omega, by simp⟩
 ·exact ⟨by omega, by simp; omega⟩
 ·intro k hk; simp [Value.ownBlock] at hk
 ·intro i v hv k hk
  have e1 : v = .slice none 0 0 := List.eq_of_mem_replicate (List.mem_of_getElem? hv)
  subst e1; simp [Value.ownBlock] at hk
 ·intro k hk; simp [Value.ownBlock] at hk
 ·intro i j v u hv hu hij k hk
  have e1 : v = .slice none 0 0 := List.eq_of_mem_replicate (List.mem_of_getElem? hv)
  subst e1; simp [Value.ownBlock] at hk
 ·intro i v hv k hk
  have e1 : v = .slice none 0 0 := List.eq_of_mem_replicate (List.mem_of_getElem? hv)
  subst e1; simp [Value.ownBlock] at hk
def newOk (peer peers : Int) : Bool := decide (1 ≤ peers ∧ peers ≤ 8 ∧ 0 ≤ peer ∧ peer < peers)
set_option maxHeartbeats 400000 in
theorem rnew_bad (peer peers : Int) (w : World) (h : newOk peer peers = false) :
  Calls Tryz.prog 10 #[.int .i64 peer, .int .i64 peers] w fun e' w' => e' = .returned (.tuple #[.pointer none, .int .i64 1]) ∧ w' = w := by
 have h : ¬ (1 ≤ peers ∧ peers ≤ 8 ∧ 0 ≤ peer ∧ peer < peers) := by simpa [newOk] using h
 by_cases c1 : peers < 1
 ·clear h
  go_enter Tryz.func10, Tryz.ntmps10
  go_wp2
  go_ret2
  exact ⟨rfl, rfl⟩
 by_cases c2 : 8 < peers
 ·clear h
  go_enter Tryz.func10, Tryz.ntmps10
  go_wp2
  go_ret2
  exact ⟨rfl, rfl⟩
 by_cases c3 : peer < 0
 ·clear h
  go_enter Tryz.func10, Tryz.ntmps10
  go_wp2
  go_ret2
  exact ⟨rfl, rfl⟩
 have c4 : peers ≤ peer := by omega
 clear h
 go_enter Tryz.func10, Tryz.ntmps10
 go_wp2
 go_ret2
 exact ⟨rfl, rfl⟩
def rgreaterB (c1 p1 c2 p2 : Int) : Bool := decide (c2 < c1) || (decide (c1 = c2) && decide (p2 < p1))
theorem rgreaterB_eq (c1 p1 c2 p2 : Int) : rgreaterB c1 p1 c2 p2 = greaterB c1 p1 c2 p2 := by
 unfold rgreaterB greaterB
 by_cases h : c1 = c2
 ·subst h; simp
 ·simp [h]
set_option maxHeartbeats 400000 in
theorem rgreater_any (c1 p1 c2 p2 : Int) (w : World) :
  Calls Tryz.prog 101 #[.agg #[.int .i64 c1, .int .i64 p1], .agg #[.int .i64 c2, .int .i64 p2]] w fun e w' =>
   e = .returned (.bool (greaterB c1 p1 c2 p2)) ∧ Kept (fun _ => False) w w' := by
 by_cases h : c2 < c1
 ·have e : Hid (greaterB c1 p1 c2 p2 = true) := by show _ = _; rw [← rgreaterB_eq]; simp [rgreaterB, h]
  go_enter Tryz.func101, Tryz.ntmps101
  go_wp2
  go_ret
  exact ⟨ret_bool e.out.symm, ((Kept.refl _ _).alloc _).alloc _⟩
 ·by_cases h2 : c1 = c2
  ·have e : Hid (greaterB c1 p1 c2 p2 = decide (p2 < p1)) := by show _ = _; rw [← rgreaterB_eq]; simp [rgreaterB, h, h2]
   subst h2
   go_enter Tryz.func101, Tryz.ntmps101
   go_wp2
   go_ret
   exact ⟨ret_bool e.out.symm, ((Kept.refl _ _).alloc _).alloc _⟩
  ·have e : Hid (greaterB c1 p1 c2 p2 = false) := by show _ = _; rw [← rgreaterB_eq]; simp [rgreaterB, h, h2]
   go_enter Tryz.func101, Tryz.ntmps101
   go_wp2
   go_ret
   exact ⟨ret_bool e.out.symm, ((Kept.refl _ _).alloc _).alloc _⟩
def roomOf (s : RSt) : Int := if 400 ≤ ((s.known[s.me]?).getD 0) then 5 else if (4294967295 : Int) ≤ (s.clock : Int) then 4 else 0
theorem RefAt.opsCell {w : World} {F : Nat → Prop} {bp : Nat} {s : RSt} {rv : Value} {bo : Nat} {vs : List Value} {hv : Value} (h : RefAt w F bp s rv bo vs hv) (i : Nat) (hi : i < s.ops.length) :
  ∃ l a cp, s.ops[i]? = some l ∧ w.cell? ⟨bo, i, none⟩ = some (.slice a l.length cp) ∧ vs[i]? = some (.slice a l.length cp) ∧ s.known[i]? = some l.length := by
 obtain ⟨l, hl⟩ : ∃ l, s.ops[i]? = some l := ⟨_, List.getElem?_eq_getElem hi⟩
 obtain ⟨v, hv⟩ : ∃ v, vs[i]? = some v := ⟨_, List.getElem?_eq_getElem (by rw [h.opsN]; exact hi)⟩
 obtain ⟨a, cp, rfl, _, _⟩ := own_slice (h.opsAt i v l hv hl)
 refine ⟨l, a, cp, hl, ?_, hv, ?_⟩
 ·rw [Lib.cell_of_heap h.opsB]; simpa using hv
 ·simp [RSt.known, hl]
set_option maxHeartbeats 1000000 in
set_option maxRecDepth 100000 in
theorem rroom_any {w : World} {F : Nat → Prop} {bp : Nat} {s : RSt} {rv : Value} {bo : Nat} {vs : List Value} {hv : Value} (h : RefAt w F bp s rv bo vs hv) (hm : s.me < s.ops.length) (h8 : s.ops.length ≤ 8) :
  Calls Tryz.prog 47 #[.pointer (some ⟨bp, 0, none⟩)] w fun e' w' => e' = .returned (.int .i64 (roomOf s)) ∧ Kept (fun _ => False) w w' := by
 obtain ⟨c0, c1, c2, c3, c4, c5⟩ := h.cells
 have hb := lt_of_heap h.block
 have hbo := lt_of_heap h.opsB
 obtain ⟨l, a, cp, hl, g0, _, hk⟩ := h.opsCell s.me hm
 have e : Hid (roomOf s = if 400 ≤ l.length then 5 else if (4294967295 : Int) ≤ (s.clock : Int) then 4 else 0) := by show _ = _; unfold roomOf; rw [hk]; rfl
 clear hk hl h
 obtain ⟨C, hC⟩ : ∃ C : Int, (s.clock : Int) = C := ⟨_, rfl⟩
 rw [hC] at e c2
 clear hC
 by_cases d1 : 400 ≤ l.length
 ·go_enter Tryz.func47, Tryz.ntmps47
  go_wp2
  go_region
  go_wp2
  go_ret
  exact ⟨ret_int (by rw [e.out, if_pos d1]), (Kept.refl _ w).drew⟩
 ·by_cases d2 : (4294967295 : Int) ≤ C
  ·go_enter Tryz.func47, Tryz.ntmps47
   go_wp2
   go_region
   go_wp2
   go_ret
   exact ⟨ret_int (by rw [e.out, if_neg d1, if_pos d2]), (Kept.refl _ w).drew⟩
  ·go_enter Tryz.func47, Tryz.ntmps47
   go_wp2
   go_region
   go_wp2
   go_ret
   exact ⟨ret_int (by rw [e.out, if_neg d1, if_neg (by omega)]), (Kept.refl _ w).drew⟩
def RElemsAt (w : World) (g : Nat) (es : List El) : Prop :=
 ∀ i e, es[i]? = some e → w.cell? ⟨g, i * 4, none⟩ = some (.int .i64 e.clock) ∧ w.cell? ⟨g, i * 4 + 1, none⟩ = some (.int .i64 e.peer) ∧ w.cell? ⟨g, i * 4 + 2, none⟩ = some (.int .i64 e.char) ∧ w.cell? ⟨g, i * 4 + 3, none⟩ = some (.bool e.dead)
theorem RElemsAt.kept {S : Nat → Prop} {w w' : World} {g : Nat} {es : List El} (h : RElemsAt w g es) (k : Kept S w w') (hS : ¬ S g) : RElemsAt w' g es := fun i e he => by
 obtain ⟨h0, h1, h2, h3⟩ := h i e he
 exact ⟨k.cell' h0 hS, k.cell' h1 hS, k.cell' h2 hS, k.cell' h3 hS⟩
theorem relems_of_own {w : World} {rv : Value} {es : List El} (h : w.ownsRow 0 78 4 rv es.length (rrow es)) : ∃ a cp, rv = .slice a es.length cp ∧ (es ≠ [] → ∃ g, a = some ⟨g, 0, none⟩ ∧ RElemsAt w g es) := by
 rcases h.2 with ⟨rfl, h0⟩ | ⟨g, cap, cur, rfl, _, hg, _, _, _, htk⟩
 ·exact ⟨none, 0, by rw [h0], fun hne => absurd (List.length_eq_zero_iff.1 h0) hne⟩
 ·refine ⟨_, cap, rfl, fun _ => ⟨g, rfl, fun i e he => ?_⟩⟩
  have hil : i < es.length := (List.getElem?_eq_some_iff.1 he).1
  have key : ∀ j, j < 4 → w.cell? ⟨g, i * 4 + j, none⟩ = (rcellsOf e)[j]? := fun j hj => by
   rw [Lib.cell_of_heap hg, ← rrow_at es i e he j hj, ← htk, List.getElem?_take, if_pos (by omega), Array.getElem?_toList]
  exact ⟨key 0 (by omega), key 1 (by omega), key 2 (by omega), key 3 (by omega)⟩
set_option maxHeartbeats 1000000 in
set_option maxRecDepth 100000 in
theorem rfind_any {w : World} {F : Nat → Prop} {bp : Nat} {s : RSt} {rv : Value} {bo : Nat} {vs : List Value} {hv : Value} (h : RefAt w F bp s rv bo vs hv) (c p : Int) (hn : s.row.length ≤ 4294967296) :
  Calls Tryz.prog 100 #[.pointer (some ⟨bp, 0, none⟩), .agg #[.int .i64 c, .int .i64 p]] w fun e' w' => e' = .returned (.int .i64 (findFrom c p s.row 0)) ∧ Kept (fun _ => False) w w' := by
 obtain ⟨c0, c1, c2, c3, c4, c5⟩ := h.cells
 have hb := lt_of_heap h.block
 obtain ⟨a, cp, rfl, hel⟩ := relems_of_own h.row
 clear h c0 c1 c2 c4 c5
 go_enter Tryz.func100, Tryz.ntmps100
 go_wp2
 have hx1 : Kept (fun _ => False) w (w.alloc (.cells #[.int .i64 c, .int .i64 p] 76)) := (Kept.refl _ w).alloc _
 have hbx : (w.alloc (.cells #[.int .i64 c, .int .i64 p] 76)).heap[w.heap.size]? = some (.cells #[.int .i64 c, .int .i64 p] 76 (0, 0)) := heap_alloc_new w _
 go_loopw [5] (fun i wr => ∃ k : Nat, k ≤ s.row.length ∧ i = .int .i64 k ∧ Kept (fun _ => False) (w.alloc (.cells #[.int .i64 c, .int .i64 p] 76)) wr ∧ Hid (findFrom c p s.row 0 = findFrom c p (s.row.drop k) k)) (fun i _ => s.row.length - (intOf i).toNat)
 case atStart => exact ⟨0, Nat.zero_le _, rfl, Kept.refl _ _, rfl⟩
 case round =>
  obtain ⟨k, hk, rfl, hkp, hf⟩ := hrel
  have hkw := hx1.trans' hkp
  have d3 := hkw.cell' c3 (fun h => h)
  have b0 : wr.cell? ⟨w.heap.size, 0, none⟩ = some (.int .i64 c) := by rw [Lib.cell_of_heap (hkp.heap hbx (fun h => h))]; rfl
  have b1 : wr.cell? ⟨w.heap.size, 1, none⟩ = some (.int .i64 p) := by rw [Lib.cell_of_heap (hkp.heap hbx (fun h => h))]; rfl
  have hbw : bp < wr.heap.size := World.block_lt_of_cell? wr _ d3
  have hbw2 : w.heap.size < wr.heap.size := World.block_lt_of_cell? wr _ b0
  by_cases hlt : k < s.row.length
  ·obtain ⟨e, hek⟩ : ∃ e, s.row[k]? = some e := ⟨_, List.getElem?_eq_getElem hlt⟩
   obtain ⟨g, rfl, heg⟩ := hel (by intro h; rw [h] at hlt; simp at hlt)
   obtain ⟨e0, e1, e2, e3⟩ := (heg.kept hkw (fun h => h)) k e hek
   have hgw : g < wr.heap.size := World.block_lt_of_cell? wr _ e0
   have HF : Hid (s.row[k]? = some e) := hek
   have HE : Hid (Kept (fun _ => False) w wr) := hkw
   have HE1 : Hid (Kept (fun _ => False) (w.alloc (.cells #[.int .i64 c, .int .i64 p] 76)) wr) := hkp
   obtain ⟨C, hC⟩ : ∃ C : Int, (e.clock : Int) = C := ⟨_, rfl⟩
   obtain ⟨P, hP⟩ : ∃ P : Int, (e.peer : Int) = P := ⟨_, rfl⟩
   have hdr : Hid (findFrom c p s.row 0 = if C = c ∧ P = p then (k : Int) else findFrom c p (s.row.drop (k + 1)) (k + 1)) := by
    show _ = _
    rw [hf.out, findFrom_drop c p s.row k e hek, hC, hP]
   rw [hC] at e0
   rw [hP] at e1
   clear hek hel heg hkw hkp hx1 hbx hf hC hP c3 hb
   by_cases hm : C = c
   ·by_cases hm2 : P = p
    ·have hres : Hid (findFrom c p s.row 0 = k) := by show _ = _; rw [hdr.out, if_pos ⟨hm, hm2⟩]
     subst hm hm2
     go_wp2
     go_quiet (fail)
     go_wp2
     go_ret
     exact ⟨ret_int hres.out.symm, HE.out.drewN _⟩
    ·have hres : Hid (findFrom c p s.row 0 = findFrom c p (s.row.drop (k + 1)) (k + 1)) := by show _ = _; rw [hdr.out, if_neg (fun x => hm2 x.2)]
     subst hm
     have hd : (P == p) = false := by simpa using hm2
     go_wp2
     go_quiet (fail)
     go_wp2
     go_roundw
     case rel => exact ⟨k + 1, by omega, by go_num, HE1.out.drewN _, hres⟩
     case measure => simp [intOf]; omega
   ·have hres : Hid (findFrom c p s.row 0 = findFrom c p (s.row.drop (k + 1)) (k + 1)) := by show _ = _; rw [hdr.out, if_neg (fun x => hm x.1)]
    have hd : (C == c) = false := by simpa using hm
    go_wp2
    go_quiet (fail)
    go_wp2
    go_roundw
    case rel => exact ⟨k + 1, by omega, by go_num, HE1.out.drewN _, hres⟩
    case measure => simp [intOf]; omega
  ·clear hel hbx hx1 hkp c3 hb
   go_wp2
   go_ret
   have : k = s.row.length := by omega
   subst this
   exact ⟨ret_int (by rw [hf.out]; simp [findFrom]), hkw⟩
def IntsAt (w : World) (v : Value) (l : List Nat) : Prop := w.ownsRow 0 3 1 v l.length (l.map fun (n : Nat) => Value.int .i64 n)
theorem IntsAt.nil (w : World) : IntsAt w (.slice none 0 0) [] := World.ownsRow_nil _ _ _ _
theorem IntsAt.kept {S : Nat → Prop} {w w' : World} {v : Value} {l : List Nat} (h : IntsAt w v l) (k : Kept S w w') (hS : ∀ b, v.ownBlock = some b → ¬ S b) : IntsAt w' v l := ownsRow_kept h k hS
theorem IntsAt.one {wr : World} {v : Value} {l : List Nat} (h : IntsAt wr v l) (n : Nat) (hl : l.length ≤ 4294967296) :
  ∃ v' w', (∀ ty, (Builtin.append_ #[30, 30] ty #[v, .slice (some ⟨wr.heap.size, 0, none⟩) 1 1]).run Tryz.prog (wr.alloc (.cells #[.int .i64 (n : Int)] 3)) = .ok v' w') ∧ IntsAt w' v' (l ++ [n]) ∧ Kept (fun k => v.ownBlock = some k) wr w' ∧ (∀ k, v'.ownBlock = some k → v.ownBlock = some k ∨ wr.heap.size ≤ k) := by
 obtain ⟨i0, hi0, hz0, hzs, hzb⟩ := info_parts info_int
 have h' : IntsAt (wr.alloc (.cells #[.int .i64 (n : Int)] 3)) v l := h.kept ((Kept.refl (fun _ => False) wr).alloc _) (fun _ _ h => h)
 have hnb : (wr.alloc (.cells #[.int .i64 (n : Int)] 3)).heap[wr.heap.size]? = some (.cells #[.int .i64 (n : Int)] 3 (0, 0)) := heap_alloc_new wr _
 obtain ⟨v', w1, hr, hown', hkp, hblk⟩ := append_strong Tryz.prog _ 30 30 3 i0 _ 1 8 Tryz.underlying30 hi0 hz0 hzs hzb rfl (by decide) v l.length _ h' (.slice (some ⟨wr.heap.size, 0, none⟩) 1 1) 1 [.int .i64 (n : Int)]
  (Src.ofSlice _ Tryz.underlying30 ⟨wr.heap.size, 0, none⟩ 1 1 _ rfl (fun j u hj => by rw [Addr.add_lit, Lib.cell_of_heap hnb]; simpa using hj) (by intro v hv; simp at hv; subst hv; rfl)) (by decide) (by unfold maxLen; omega) (by omega)
 refine ⟨v', w1, hr, ?_, ((Kept.refl _ wr).alloc _).trans' hkp, fun k hk => ?_⟩
 ·show w1.ownsRow 0 3 1 v' (l ++ [n]).length _
  rw [List.map_append, List.length_append]; exact hown'
 ·rcases hblk k hk with h1 | h1
  ·exact Or.inl h1
  ·right; simp at h1; omega
def liveIdx : List El → Nat → List Nat
 | [], _ => []
 | e :: r, k => if e.dead then liveIdx r (k + 1) else k :: liveIdx r (k + 1)
theorem liveIdx_append (a b : List El) (k : Nat) : liveIdx (a ++ b) k = liveIdx a k ++ liveIdx b (k + a.length) := by
 induction a generalizing k with
 | nil => simp [liveIdx]
 | cons e r ih =>
  simp only [List.cons_append, liveIdx, ih, List.length_cons]
  have : k + 1 + r.length = k + (r.length + 1) := by omega
  rw [this]
  split <;> simp
theorem liveIdx_take (es : List El) (k : Nat) (e : El) (h : es[k]? = some e) : liveIdx (es.take (k + 1)) 0 = liveIdx (es.take k) 0 ++ if e.dead then [] else [k] := by
 have hk : k < es.length := (List.getElem?_eq_some_iff.1 h).1
 have he : es[k] = e := (List.getElem?_eq_some_iff.1 h).2
 rw [List.take_succ_eq_append_getElem hk, liveIdx_append, he]
 have : 0 + (es.take k).length = k := by simp; omega
 rw [this]
 simp only [liveIdx]
theorem liveIdx_length (es : List El) (k : Nat) : (liveIdx es k).length ≤ es.length := by
 induction es generalizing k with
 | nil => simp [liveIdx]
 | cons e r ih =>
  unfold liveIdx
  have := ih (k + 1)
  split <;> simp <;> omega
set_option maxHeartbeats 1000000 in
set_option maxRecDepth 100000 in
theorem rlive_any {w : World} {F : Nat → Prop} {bp : Nat} {s : RSt} {rv : Value} {bo : Nat} {vs : List Value} {hv : Value} (h : RefAt w F bp s rv bo vs hv) (hn : s.row.length ≤ 4294967296) :
  Calls Tryz.prog 27 #[.pointer (some ⟨bp, 0, none⟩)] w fun e' w' => ∃ v, e' = .returned v ∧ IntsAt w' v (liveIdx s.row 0) ∧ Kept (fun _ => False) w w' ∧ (∀ k, v.ownBlock = some k → w.heap.size ≤ k) := by
 obtain ⟨c0, c1, c2, c3, c4, c5⟩ := h.cells
 have hb := lt_of_heap h.block
 obtain ⟨a, cp, rfl, hel⟩ := relems_of_own h.row
 clear h c0 c1 c2 c4 c5
 go_enter Tryz.func27, Tryz.ntmps27
 go_wp2
 go_loopw [3, 4] (fun v i wr => ∃ k : Nat, k ≤ s.row.length ∧ i = .int .i64 k ∧ Kept (fun _ => False) w wr ∧ IntsAt wr v (liveIdx (s.row.take k) 0) ∧ (∀ k, v.ownBlock = some k → w.heap.size ≤ k)) (fun _ i _ => s.row.length - (intOf i).toNat)
 case atStart => exact ⟨0, Nat.zero_le _, rfl, Kept.refl _ w, IntsAt.nil _, fun k hk => by simp [Value.ownBlock] at hk⟩
 case round =>
  obtain ⟨k, hk, rfl, hkp, hl, hvb⟩ := hrel
  have d3 := hkp.cell' c3 (fun h => h)
  have hbw : bp < wr.heap.size := World.block_lt_of_cell? wr _ d3
  by_cases hlt : k < s.row.length
  ·obtain ⟨e, hek⟩ : ∃ e, s.row[k]? = some e := ⟨_, List.getElem?_eq_getElem hlt⟩
   obtain ⟨g, rfl, heg⟩ := hel (by intro h; rw [h] at hlt; simp at hlt)
   obtain ⟨e0, e1, e2, e3⟩ := (heg.kept hkp (fun h => h)) k e hek
   have hgw : g < wr.heap.size := World.block_lt_of_cell? wr _ e0
   have hli : Hid _ := liveIdx_take s.row k e hek
   have hll : (liveIdx (s.row.take k) 0).length ≤ 4294967296 := by
    have := liveIdx_length (s.row.take k) 0
    have h2 := List.length_take_le' k s.row
    omega
   clear hek hel heg c3 hb
   cases hde : e.dead with
   | true =>
    rw [hde] at e3
    go_wp2
    go_roundw
    case rel => exact ⟨k + 1, by omega, by go_num, hkp, by rw [hli.out, hde, if_pos rfl, List.append_nil]; exact hl, hvb⟩
    case measure => simp [intOf]; omega
   | false =>
    rw [hde] at e3
    obtain ⟨v', w1, hr, hi', hk', hb'⟩ := hl.one k hll
    go_wp2_with (at_builtin; refine Lib.wpList_append_run _ rfl _ _ _ _ rfl _ _ rfl rfl _ _ (hr _) ?_)
    go_roundw
    case rel =>
     refine ⟨k + 1, by omega, by go_num, hkp.trans hk' (fun i hi hs => by have := hvb i hs; omega), by rw [hli.out, hde]; exact hi', fun j hj => ?_⟩
     rcases hb' j hj with h1 | h1
     ·exact hvb j h1
     ·exact Nat.le_trans hkp.size h1
    case measure => simp [intOf]; omega
  ·go_wp2
   go_ret
   have : k = s.row.length := by omega
   subst this
   rw [List.take_length] at hl
   exact ⟨_, rfl, hl, hkp, hvb⟩
theorem known_take (s : RSt) (k n : Nat) (h : s.known[k]? = some n) : s.known.take (k + 1) = s.known.take k ++ [n] := by
 have hk : k < s.known.length := (List.getElem?_eq_some_iff.1 h).1
 have he : s.known[k] = n := (List.getElem?_eq_some_iff.1 h).2
 rw [List.take_succ_eq_append_getElem hk, he]
set_option maxHeartbeats 1000000 in
set_option maxRecDepth 100000 in
theorem rknown_any {w : World} {F : Nat → Prop} {bp : Nat} {s : RSt} {rv : Value} {bo : Nat} {vs : List Value} {hv : Value} (h : RefAt w F bp s rv bo vs hv) (h8 : s.ops.length ≤ 8) :
  Calls Tryz.prog 16 #[.pointer (some ⟨bp, 0, none⟩)] w fun e' w' => ∃ v, e' = .returned v ∧ IntsAt w' v s.known ∧ Kept (fun _ => False) w w' ∧ (∀ k, v.ownBlock = some k → w.heap.size ≤ k) := by
 obtain ⟨c0, c1, c2, c3, c4, c5⟩ := h.cells
 have hkn : s.known.length = s.ops.length := by simp [RSt.known]
 have hops := h.opsCell
 clear h c0 c2 c3 c5
 go_enter Tryz.func16, Tryz.ntmps16
 go_wp2
 go_loopw [3, 4] (fun v i wr => ∃ k : Nat, k ≤ s.ops.length ∧ i = .int .i64 k ∧ Kept (fun _ => False) w wr ∧ IntsAt wr v (s.known.take k) ∧ (∀ k, v.ownBlock = some k → w.heap.size ≤ k)) (fun _ i _ => s.ops.length - (intOf i).toNat)
 case atStart => exact ⟨0, Nat.zero_le _, rfl, Kept.refl _ w, IntsAt.nil _, fun k hk => by simp [Value.ownBlock] at hk⟩
 case round =>
  obtain ⟨k, hk, rfl, hkp, hl, hvb⟩ := hrel
  have d1 := hkp.cell' c1 (fun h => h)
  have d4 := hkp.cell' c4 (fun h => h)
  have hbw : bp < wr.heap.size := World.block_lt_of_cell? wr _ d1
  by_cases hlt : k < s.ops.length
  ·obtain ⟨l, a, cp, _, g0, _, hkk⟩ := hops k hlt
   have g1 := hkp.cell' g0 (fun h => h)
   have hbo : bo < wr.heap.size := World.block_lt_of_cell? wr _ g1
   have hli : Hid _ := known_take s k _ hkk
   have hll : (s.known.take k).length ≤ 4294967296 := by
    have h2 := List.length_take_le' k s.known
    omega
   obtain ⟨v', w1, hr, hi', hk', hb'⟩ := hl.one l.length hll
   clear hkk hops c1 c4 g0
   go_wp2_with (at_builtin; refine Lib.wpList_append_run _ rfl _ _ _ _ rfl _ _ rfl rfl _ _ (hr _) ?_)
   go_roundw
   case rel =>
    refine ⟨k + 1, by omega, by go_num, hkp.trans hk' (fun i hi hs => by have := hvb i hs; omega), by rw [hli.out]; exact hi', fun j hj => ?_⟩
    rcases hb' j hj with h1 | h1
    ·exact hvb j h1
    ·exact Nat.le_trans hkp.size h1
   case measure => simp [intOf]; omega
  ·clear hops
   go_wp2
   go_ret
   have : k = s.known.length := by omega
   subst this
   rw [List.take_length] at hl
   exact ⟨_, rfl, hl, hkp, hvb⟩
theorem IntsAt.cells {w : World} {v : Value} {l : List Nat} (h : IntsAt w v l) : ∃ a cp, v = .slice a l.length cp ∧ (∀ (i n : Nat), l[i]? = some n → ∃ g, a = some ⟨g, 0, none⟩ ∧ w.cell? ⟨g, i, none⟩ = some (.int .i64 (n : Int))) := by
 rcases h.2 with ⟨rfl, h0⟩ | ⟨g, cap, cur, rfl, _, hg, _, _, _, htk⟩
 ·refine ⟨none, 0, by rw [h0], fun i n hi => ?_⟩
  rw [List.length_eq_zero_iff.1 h0] at hi; simp at hi
 ·refine ⟨_, cap, rfl, fun i n hi => ⟨g, rfl, ?_⟩⟩
  have hil : i < l.length := (List.getElem?_eq_some_iff.1 hi).1
  have : (l.map fun (n : Nat) => Value.int .i64 n)[i]? = some (.int .i64 (n : Int)) := by simp [hi]
  rw [Lib.cell_of_heap hg, ← Array.getElem?_toList, ← this, ← htk, List.getElem?_take, if_pos (by omega)]
def placesText (es : List El) (l : List Nat) : List UInt8 := l.flatMap fun i => match es[i]? with | some e => Lib.encodeRune e.char | none => []
theorem placesText_take (es : List El) (l : List Nat) (k i : Nat) (e : El) (h : l[k]? = some i) (he : es[i]? = some e) : placesText es (l.take (k + 1)) = placesText es (l.take k) ++ Lib.encodeRune e.char := by
 have hk : k < l.length := (List.getElem?_eq_some_iff.1 h).1
 have hi : l[k] = i := (List.getElem?_eq_some_iff.1 h).2
 rw [List.take_succ_eq_append_getElem hk, hi]
 simp [placesText, he]
theorem liveIdx_text (pre es : List El) : placesText (pre ++ es) (liveIdx es pre.length) = textBytes es := by
 induction es generalizing pre with
 | nil => rfl
 | cons e r ih =>
  have := ih (pre ++ [e])
  simp only [List.append_assoc, List.singleton_append, List.length_append, List.length_singleton] at this
  unfold liveIdx textBytes
  split
  ·exact this
  ·rw [← this]
   simp [placesText]
theorem liveIdx_mem (es : List El) (k i : Nat) (h : i ∈ liveIdx es k) : k ≤ i ∧ i < k + es.length := by
 induction es generalizing k with
 | nil => simp [liveIdx] at h
 | cons e r ih =>
  unfold liveIdx at h
  split at h
  ·have := ih (k + 1) h; simp; omega
  ·simp only [List.mem_cons] at h
   rcases h with rfl | h
   ·simp
   ·have := ih (k + 1) h; simp; omega
end Go.Proofs.YtgfafbanahiigaaGreat
