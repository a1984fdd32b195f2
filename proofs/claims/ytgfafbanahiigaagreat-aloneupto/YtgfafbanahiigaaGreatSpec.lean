import Derived.Test.YtgfafbanahiigaaGreatBase
set_option linter.unusedVariables false
set_option linter.unusedSimpArgs false
namespace Go.Chorus
open Go.RowKit
def greaterB (c1 p1 c2 p2 : Int) : Bool := if c1 = c2 then decide (p2 < p1) else decide (c2 < c1)
def placeOf (c p : Int) (es : List El) : Int := if c = 0 ∧ p = 0 then 0 else findFrom c p es 0 + 1
def placeOk (c p : Int) (es : List El) : Bool := if c = 0 ∧ p = 0 then true else decide (0 ≤ findFrom c p es 0)
def liveAt : List El → Int → Option El
 | [], _ => none
 | e :: r, at_ => if e.dead then liveAt r at_ else if at_ = 0 then some e else liveAt r (at_ - 1)
theorem liveAt_drop (es : List El) (k : Nat) (e : El) (h : es[k]? = some e) (a : Int) : liveAt (es.drop k) a = if e.dead then liveAt (es.drop (k + 1)) a else if a = 0 then some e else liveAt (es.drop (k + 1)) (a - 1) := by
 have hk : k < es.length := (List.getElem?_eq_some_iff.1 h).1
 have he : es[k] = e := (List.getElem?_eq_some_iff.1 h).2
 rw [List.drop_eq_getElem_cons hk, he]; rfl
def isGreater (e : El) (c p : Nat) : Bool := greaterB e.clock e.peer c p
def behindGreater (c p : Nat) : List El → Nat → Nat
 | [], k => k
 | e :: r, k => if isGreater e c p then behindGreater c p r (k + 1) else k
theorem behindGreater_drop (c p : Nat) (es : List El) (k : Nat) (e : El) (h : es[k]? = some e) : behindGreater c p (es.drop k) k = if isGreater e c p then behindGreater c p (es.drop (k + 1)) (k + 1) else k := by
 have hk : k < es.length := (List.getElem?_eq_some_iff.1 h).1
 have he : es[k] = e := (List.getElem?_eq_some_iff.1 h).2
 rw [List.drop_eq_getElem_cons hk, he]; rfl
def contAt (c p : Nat) (es : List El) (k : Nat) : Bool := match es[k]? with | some e => isGreater e c p | none => false
theorem behindGreater_cont (c p : Nat) (es : List El) (k : Nat) : behindGreater c p (es.drop k) k = if contAt c p es k then behindGreater c p (es.drop (k + 1)) (k + 1) else k := by
 unfold contAt
 cases h : es[k]? with
 | some e => exact behindGreater_drop c p es k e h
 | none =>
  rw [List.drop_eq_nil_of_le (List.getElem?_eq_none_iff.1 h)]
  rfl
theorem contAt_lt (c p : Nat) (es : List El) (k : Nat) (h : contAt c p es k = true) : k < es.length := by
 unfold contAt at h
 cases h2 : es[k]? with
 | some e => exact (List.getElem?_eq_some_iff.1 h2).1
 | none => rw [h2] at h; cases h
def insertEl (es : List El) (c p bc bp : Nat) (ch : Int) : List El :=
 if 0 ≤ findFrom c p es 0 ∨ placeOk bc bp es = false then es
 else
  let k := behindGreater c p (es.drop (placeOf bc bp es).toNat) (placeOf bc bp es).toNat
  es.take k ++ ⟨c, p, ch, false⟩ :: es.drop k
def four (n : Nat) : List UInt8 := [UInt8.ofNat (n / 16777216), UInt8.ofNat (n / 65536), UInt8.ofNat (n / 256), UInt8.ofNat n]
theorem four_cells (n : Nat) : Lib.byteCells (four n) = [.int .u8 ((n / 16777216 % 256 : Nat) : Int), .int .u8 ((n / 65536 % 256 : Nat) : Int), .int .u8 ((n / 256 % 256 : Nat) : Int), .int .u8 ((n % 256 : Nat) : Int)] := by
 simp [four, Lib.byteCells]
theorem bytes_oneCell (l : List UInt8) : ∀ v ∈ Lib.byteCells l, v.oneCell' = true := by
 intro v hv
 simp only [Lib.byteCells, List.mem_map] at hv
 obtain ⟨b, _, rfl⟩ := hv
 rfl
def sumFrom : List UInt8 → Nat → Nat
 | [], s => s
 | b :: r, s => sumFrom r ((s * 65599 + b.toNat + 1) % 4294967296)
theorem sumFrom_snoc (l : List UInt8) (b : UInt8) (s : Nat) : sumFrom (l ++ [b]) s = (sumFrom l s * 65599 + b.toNat + 1) % 4294967296 := by
 induction l generalizing s with
 | nil => rfl
 | cons x r ih => exact ih _
theorem sumFrom_lt (l : List UInt8) (s : Nat) (h : s < 4294967296) : sumFrom l s < 4294967296 := by
 induction l generalizing s with
 | nil => exact h
 | cons x r ih => exact ih _ (Nat.mod_lt _ (by decide))
theorem sum_take (l : List UInt8) (k : Nat) (b : UInt8) (h : l[k]? = some b) : sumFrom (l.take (k + 1)) 0 = (sumFrom (l.take k) 0 * 65599 + b.toNat + 1) % 4294967296 := by
 have hk : k < l.length := (List.getElem?_eq_some_iff.1 h).1
 have he : l[k] = b := (List.getElem?_eq_some_iff.1 h).2
 rw [List.take_succ_eq_append_getElem hk, he, sumFrom_snoc]
def killEl (es : List El) (c p : Nat) : List El :=
 if 0 ≤ findFrom c p es 0 then es.modify (findFrom c p es 0).toNat (fun e => { e with dead := true }) else es
def fours : List Nat → List UInt8
 | [] => []
 | n :: r => four n ++ fours r
theorem fours_append (a b : List Nat) : fours (a ++ b) = fours a ++ fours b := by
 induction a with
 | nil => rfl
 | cons x r ih => simp [fours, ih]
theorem fours_take (l : List Nat) (k n : Nat) (h : l[k]? = some n) : fours (l.take (k + 1)) = fours (l.take k) ++ four n := by
 have hk : k < l.length := (List.getElem?_eq_some_iff.1 h).1
 have he : l[k] = n := (List.getElem?_eq_some_iff.1 h).2
 rw [List.take_succ_eq_append_getElem hk, fours_append, he]; simp [fours]
theorem fours_length (l : List Nat) : (fours l).length = 4 * l.length := by
 induction l with
 | nil => rfl
 | cons x r ih => simp [fours, four, ih]; omega
def packetHead (kd p n c : Nat) (seen : List Nat) (tc tp : Nat) (ch : Nat) : List UInt8 :=
 [UInt8.ofNat kd, UInt8.ofNat p] ++ four n ++ four c ++ fours seen ++ four tc ++ [UInt8.ofNat tp] ++ (if kd = 1 then four ch else [])
def packetOf (kd p n c : Nat) (seen : List Nat) (tc tp : Nat) (ch : Nat) : List UInt8 :=
 packetHead kd p n c seen tc tp ch ++ four (sumFrom (packetHead kd p n c seen tc tp ch) 0)
theorem own_ne {w : World} {e T : TypeId} {size : Nat} {v : Value} {n : Nat} {xs : List Value} {b : Nat} {cs : Array Value} {fr : Nat × Nat} (hown : w.ownsRow 0 e size v n xs) (hb : w.heap[b]? = some (.cells cs T fr)) (hTe : T ≠ e) : v.ownBlock ≠ some b := by
 rcases hown.2 with ⟨rfl, _⟩ | ⟨g, cap, cur, rfl, _, hg, _⟩
 ·simp [Value.ownBlock]
 ·intro h
  simp only [Value.ownBlock, Option.some.injEq] at h
  subst h
  rw [hg] at hb
  simp only [Option.some.injEq, Obj.cells.injEq] at hb
  exact hTe hb.2.1.symm
theorem byte_cell (n : Nat) (h : n < 256) : Lib.byteCells [UInt8.ofNat n] = [.int .u8 (n : Int)] := by
 simp [Lib.byteCells]; omega
theorem two_cells (a b : Nat) (ha : a < 256) (hb : b < 256) : Lib.byteCells [UInt8.ofNat a, UInt8.ofNat b] = [.int .u8 (a : Int), .int .u8 (b : Int)] := by
 simp [Lib.byteCells]; omega
structure Ope where
 ins : Bool
 peer : Nat
 num : Nat
 clock : Nat
 seen : List Nat
 nclock : Nat
 npeer : Nat
 char : Nat
def Ope.kind (o : Ope) : Nat := if o.ins then 1 else 2
def Ope.packet (o : Ope) : List UInt8 := packetOf o.kind o.peer o.num o.clock o.seen o.nclock o.npeer o.char
end Go.Chorus
