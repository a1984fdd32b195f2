import Derived.Test.YtgfafbanahiigaaM1
import Derived.Test.YtgfafbanahiigaaV17
import Derived.Test.YtgfafbanahiigaaApp2
import Derived.Deep.DeepCutAuto
set_option linter.unusedVariables false
set_option linter.unusedSimpArgs false
namespace Go.Proofs.Ytgfafbanahiigaa
open Go.RowKit Go.Chorus

theorem runes_oneCell (l : List Int) : ∀ v ∈ (l.map fun c => Value.int .i32 c), v.oneCell' = true := by
  intro v hv
  simp only [List.mem_map] at hv
  obtain ⟨b, _, rfl⟩ := hv
  rfl

theorem RunesAt.cells {w : World} {v : Value} {l : List Int} (h : RunesAt w v l) : ∃ a cp, v = .slice a l.length cp ∧ cp ≤ maxLen ∧ l.length ≤ cp ∧ (a = none → l = []) ∧ (∀ ad, a = some ad → ∃ g, ad = ⟨g, 0, none⟩ ∧ ∀ i c, l[i]? = some c → w.cell? ⟨g, i, none⟩ = some (.int .i32 c)) := by
  rcases h.2 with ⟨rfl, h0⟩ | ⟨g, cap, cur, rfl, _, hg, hnc, hm, _, htk⟩
  · exact ⟨none, 0, by rw [h0], by unfold maxLen; omega, by omega, fun _ => List.length_eq_zero_iff.1 h0, fun ad h => by cases h⟩
  · refine ⟨_, cap, rfl, hm, hnc, ?_, ?_⟩
    · intro hh; cases hh
    intro ad had
    cases had
    refine ⟨g, rfl, fun i c hc => ?_⟩
    have hil : i < l.length := (List.getElem?_eq_some_iff.1 hc).1
    have : (l.map fun c => Value.int .i32 c)[i]? = some (.int .i32 c) := by simp [hc]
    rw [Lib.cell_of_heap hg, ← Array.getElem?_toList, ← this, ← htk, List.getElem?_take, if_pos (by omega)]

/-- 'string(l)'. -/
theorem RunesAt.str {w : World} {v : Value} {l : List Int} (h : RunesAt w v l) (hok : ∀ c ∈ l, okRune c) : (convert 28 9 v).run Try.prog w = .ok (.string ⟨(bytesOf l).toArray⟩) w := by
  obtain ⟨a, cp, rfl, _, _, h0, h1⟩ := h.cells
  cases a with
  | none =>
    obtain rfl := h0 rfl
    rw [run_convert_runes_nil w 28 9 21 _ cp Try.underlying28 Try.underlying21 Try.underlying9]
    rfl
  | some ad =>
    obtain ⟨g, rfl, hc⟩ := h1 ad rfl
    rw [run_convert_runes w 28 9 21 ⟨g, 0, none⟩ l.length cp l (Nat.le_refl _) Try.underlying28 Try.underlying21 Try.underlying9 (fun j hj => by
      rw [Addr.add_lit, Nat.zero_add]
      rw [hc j _ (List.getElem?_eq_getElem hj)]
      simp [List.getD, List.getElem?_eq_getElem hj])]
    rw [List.take_length, runesBytes_eq l hok]; rfl

/-- 'append(next, l[lo:hi]...)': what is cut out of the list goes behind. -/
theorem RunesAt.cut {w : World} {v nx : Value} {l ln : List Int} (h : RunesAt w v l) (hn : RunesAt w nx ln) (lo hi : Nat) (h1 : lo ≤ hi) (h2 : hi ≤ l.length) (hl : ln.length + l.length ≤ 4294967296)
    (x : Value) (hx : ∃ a cp cp', v = .slice a l.length cp ∧ (x = .slice (a.map fun ad => ad.add lo) (hi - lo) cp' ∨ (hi - lo = 0 ∧ ∃ a', x = .slice a' 0 cp'))) :
    ∃ v' w', (∀ ty, (Builtin.append_ #[28, 28] ty #[nx, x]).run Try.prog w = .ok v' w') ∧ RunesAt w' v' (ln ++ (l.drop lo).take (hi - lo)) ∧ Kept (fun k => nx.ownBlock = some k) w w' ∧ (∀ k, v'.ownBlock = some k → nx.ownBlock = some k ∨ w.heap.size ≤ k) := by
  obtain ⟨i0, hi0, hz0, hzs, hzb⟩ := info_parts info_i32
  have hsub : ((l.drop lo).take (hi - lo)).length = hi - lo := by rw [List.length_take, List.length_drop]; omega
  have hsrc : Src Try.prog 1 28 x (hi - lo) (((l.drop lo).take (hi - lo)).map fun c => Value.int .i32 c) w := by
    obtain ⟨a, cp, cp', hv, hx⟩ := hx
    obtain ⟨a2, cp2, hv2, _, _, g0, g1⟩ := h.cells
    have haa : a = a2 := by rw [hv] at hv2; injection hv2
    subst haa
    rcases hx with rfl | ⟨hz, a', rfl⟩
    · cases a with
      | none =>
        have hl0 := g0 rfl
        subst hl0
        have : hi - lo = 0 := by simp at h2; omega
        rw [this]
        exact Src.ofNil w Try.underlying28 cp'
      | some ad =>
        obtain ⟨g, rfl, hc⟩ := g1 ad rfl
        refine Src.ofSlice w Try.underlying28 _ (hi - lo) cp' _ (by rw [List.length_map, hsub, Nat.mul_one]) (fun j u hj => ?_) (runes_oneCell _)
        simp only [List.getElem?_map, Option.map_eq_some_iff] at hj
        obtain ⟨c, hcj, rfl⟩ := hj
        show w.cell? (((⟨g, 0, none⟩ : Addr).add lo).add j) = _
        rw [Addr.add_lit, Addr.add_lit, Nat.zero_add]
        rw [List.getElem?_take] at hcj
        split at hcj
        · rw [List.getElem?_drop] at hcj
          exact hc _ c hcj
        · cases hcj
    · rw [hz]
      simp only [List.take_zero, List.map_nil]
      cases a' with
      | none => exact Src.ofNil w Try.underlying28 cp'
      | some ad => exact Src.ofSlice w Try.underlying28 ad 0 cp' [] rfl (fun j u hj => by simp at hj) (fun u hu => by cases hu)
  obtain ⟨v', w', hr, r1, r2, r3⟩ := append_any Try.prog w 28 28 21 i0 _ 1 4 Try.underlying28 hi0 hz0 hzs hzb rfl (by decide) nx ln.length _ hn x (hi - lo) _ hsrc (by unfold maxLen; omega) (by omega)
  refine ⟨v', w', hr, ?_, r2, r3⟩
  show w'.ownsRow 0 21 1 v' (ln ++ (l.drop lo).take (hi - lo)).length ((ln ++ (l.drop lo).take (hi - lo)).map _)
  rw [List.length_append, hsub, List.map_append]
  exact r1

/-- One peer of its own. -/
def lone1 (k : Nat) (es : List El) (lg : List (List Ope)) : Pr := ⟨0, k, [k], es, [], lg⟩

def LogR (lg : List (List Ope)) : Prop := ∀ l ∈ lg, ∀ o ∈ l, RightOp 1 o

/-- It in memory, whatever it has delivered. -/
def LPM (w : World) (bp k : Nat) (es : List El) (F : Nat → Prop) : Prop := ∃ lg, PM w bp (lone1 k es lg) F ∧ LogR lg

theorem LPM.keep {S : Nat → Prop} {w w' : World} {bp k : Nat} {es : List El} {F : Nat → Prop} (h : LPM w bp k es F) (hk : Kept S w w') (hS : ∀ j, F j → ¬ S j) : LPM w' bp k es F := by
  obtain ⟨lg, h1, h2⟩ := h
  exact ⟨lg, h1.keep hk hS, h2⟩

theorem LPM.quiet {w w' : World} {bp k : Nat} {es : List El} {F : Nat → Prop} (h : LPM w bp k es F) (hk : Kept (fun _ => False) w w') : LPM w' bp k es F := h.keep hk (fun _ _ h => h)

def LTurn (bp : Nat) (F : Nat → Prop) (w w' : World) (k : Nat) (es : List El) : Prop := ∃ F', LPM w' bp k es F' ∧ Kept F w w' ∧ ∀ j, F' j → F j ∨ w.heap.size ≤ j

theorem LPM.lt {w : World} {bp k : Nat} {es : List El} {F : Nat → Prop} (h : LPM w bp k es F) : ∀ j, F j → j < w.heap.size := by
  obtain ⟨lg, h1, h2⟩ := h
  exact h1.lt

/-- What holds at each round's head. -/
structure PlacedSt (w wr : World) (bp : Nat) (F : Nat → Prop) (k : Nat) (l : Value) (lr : List Int) (es : List El) : Prop where
  peer : LPM wr bp k es F
  inv : Inv es k 0
  chars : chars es = lr
  len : es.length ≤ k
  runes : RunesAt wr l lr
  ok : ∀ c ∈ lr, 19968 ≤ c ∧ c < 20088
  kept : Kept (fun _ => False) w wr
  own : ∀ j, F j → w.heap.size ≤ j
  ownL : ∀ j, l.ownBlock = some j → w.heap.size ≤ j
  apart : ∀ j, l.ownBlock = some j → ¬ F j

theorem lone1_fit {k : Nat} {es : List El} {lg : List (List Ope)} (hk : k < 4294967296) (h : Inv es k 0) (hl : LogR lg) : Fit 1 (lone1 k es lg) :=
  ⟨rfl, by decide, by decide, by show 0 < 1; decide, by intro n hn; simp [lone1] at hn; omega, hk, fun o ho => (by cases ho), Nat.zero_le _, fun e he => (h.el e he).2.2.2, hl⟩

theorem lone1_size (k : Nat) (es : List El) (lg : List (List Ope)) : psize (lone1 k es lg) = es.length := rfl

theorem lone1_makes (k : Nat) (es : List El) (lg : List (List Ope)) (ins : Bool) (t : Nm) (ch : Nat) : (lone1 k es lg).makes ins t ch = (lone1 k es []).makes ins t ch := rfl

theorem behind_name {es : List El} {k : Nat} (h : Inv es k 0) {a : Int} {tc tp : Nat} (hb : behindOf es a = some (tc, tp)) : tp = 0 ∧ tc ≤ k := by
  unfold behindOf at hb
  split at hb
  · cases hb; exact ⟨rfl, Nat.zero_le _⟩
  · split at hb
    · cases hb
    · cases hl : liveAt es (a - 1) with
      | none => rw [hl] at hb; cases hb
      | some e =>
        rw [hl] at hb
        cases hb
        obtain ⟨pre, post, rfl, _⟩ := liveAt_split es _ e hl
        have := h.el e (by simp)
        exact ⟨this.2.2.1, this.2.1⟩

theorem makes_ins {es : List El} {k : Nat} (h : Inv es k 0) (hk : k < 4294967295) {tc tp ch : Nat} (hn : tp = 0 ∧ tc ≤ k) (hch : ch < 55296) : RightOp 1 ((lone1 k es []).makes true (tc, tp) ch) :=
  ⟨by decide, by show 0 < 1; decide, ⟨by show 1 ≤ k + 1; omega, by show k + 1 < _; omega⟩, ⟨by show 1 ≤ k + 1; omega, by show k + 1 < _; omega⟩, rfl, by intro n hn; simp [lone1, Pr.makes] at hn; omega, rfl, ⟨by show tc < _; omega, by show tp < 1; omega⟩, fun _ => ⟨rfl, hn.1⟩, Or.inl hch⟩

theorem makes_del {es : List El} {k : Nat} (h : Inv es k 0) (hk : k < 4294967295) {e : El} (he : e ∈ es) : RightOp 1 ((lone1 k es []).makes false (e.clock, e.peer) 0) := by
  have := h.el e he
  exact ⟨by decide, by show 0 < 1; decide, ⟨by show 1 ≤ k + 1; omega, by show k + 1 < _; omega⟩, ⟨by show 1 ≤ k + 1; omega, by show k + 1 < _; omega⟩, rfl, by intro n hn; simp [lone1, Pr.makes] at hn; omega, rfl, ⟨by show e.clock < _; omega, by show e.peer < 1; omega⟩, fun h0 => (by have h1 : e.clock = 0 := h0; omega), rfl⟩

def logPut (lg : List (List Ope)) (o : Ope) : List (List Ope) := lg.modify 0 (· ++ [o])

theorem logR_put {lg : List (List Ope)} (h : LogR lg) {o : Ope} (ho : RightOp 1 o) : LogR (logPut lg o) := by
  intro l hl q hq
  unfold logPut at hl
  obtain ⟨i, hi, rfl⟩ := List.getElem_of_mem hl
  have hi2 : i < lg.length := by simpa using hi
  rw [List.getElem_modify] at hq
  split at hq
  · rcases List.mem_append.1 hq with hq | hq
    · exact h _ (List.getElem_mem hi2) q hq
    · rw [List.mem_singleton.1 hq]; exact ho
  · exact h _ (List.getElem_mem hi2) q hq

theorem lone1_ins (k : Nat) (es : List El) (lg : List (List Ope)) (tc tp ch : Nat) : ((lone1 k es lg).deliverF ((lone1 k es lg).makes true (tc, tp) ch)).1 = lone1 (k + 1) (insertEl es (k + 1) 0 tc tp (ch : Int)) (logPut lg ((lone1 k es lg).makes true (tc, tp) ch)) := by
  show (lone1 k es lg).apply _ = _
  unfold Pr.apply lone1 Pr.makes Pr.k logPut
  simp

theorem lone1_del (k : Nat) (es : List El) (lg : List (List Ope)) (tc tp : Nat) : ((lone1 k es lg).deliverF ((lone1 k es lg).makes false (tc, tp) 0)).1 = lone1 (k + 1) (killEl es tc tp) (logPut lg ((lone1 k es lg).makes false (tc, tp) 0)) := by
  show (lone1 k es lg).apply _ = _
  unfold Pr.apply lone1 Pr.makes Pr.k logPut
  simp

/-- 'append(next, l[:hi]...)'. -/
theorem RunesAt.head {w : World} {nx : Value} {l ln : List Int} {a : Option Addr} {cp : Nat} (h : RunesAt w (.slice a l.length cp) l) (hn : RunesAt w nx ln) (hi : Nat) (h2 : hi ≤ l.length) (hl : ln.length + l.length ≤ 4294967296) :
    ∃ v' w', (∀ ty, (Builtin.append_ #[28, 28] ty #[nx, .slice a hi cp]).run Try.prog w = .ok v' w') ∧ RunesAt w' v' (ln ++ l.take hi) ∧ Kept (fun k => nx.ownBlock = some k) w w' ∧ (∀ k, v'.ownBlock = some k → nx.ownBlock = some k ∨ w.heap.size ≤ k) := by
  have := h.cut hn 0 hi (Nat.zero_le _) h2 hl (.slice a hi cp) ⟨a, cp, cp, rfl, Or.inl (by
    have : a.map (fun ad => ad.add 0) = a := by
      cases a with
      | none => rfl
      | some ad => obtain ⟨a2, cp2, hv, _, _, _, h1⟩ := h.cells; injection hv with hv1; subst hv1; obtain ⟨g, rfl, _⟩ := h1 ad rfl; rfl
    rw [this, Nat.sub_zero])⟩
  simpa using this

/-- 'append(next, l[lo:]...)', where the list is not nil. -/
theorem RunesAt.tail {w : World} {nx : Value} {l ln : List Int} {g cp : Nat} (h : RunesAt w (.slice (some ⟨g, 0, none⟩) l.length cp) l) (hn : RunesAt w nx ln) (lo : Nat) (h2 : lo ≤ l.length) (hl : ln.length + l.length ≤ 4294967296) (cp' o : Nat) (ho : o = lo ∨ l.length - lo = 0) :
    ∃ v' w', (∀ ty, (Builtin.append_ #[28, 28] ty #[nx, .slice (some ⟨g, o, none⟩) (l.length - lo) cp']).run Try.prog w = .ok v' w') ∧ RunesAt w' v' (ln ++ l.drop lo) ∧ Kept (fun k => nx.ownBlock = some k) w w' ∧ (∀ k, v'.ownBlock = some k → nx.ownBlock = some k ∨ w.heap.size ≤ k) := by
  have := h.cut hn lo l.length h2 (Nat.le_refl _) hl (.slice (some ⟨g, o, none⟩) (l.length - lo) cp') ⟨_, cp, cp', rfl, by
    rcases ho with rfl | ho
    · left; show _ = Value.slice (some ((⟨g, 0, none⟩ : Addr).add o)) _ _; rw [Addr.add_lit, Nat.zero_add]
    · right; exact ⟨ho, _, by rw [ho]⟩⟩
  rw [List.take_of_length_le (by simp)] at this
  exact this

/-- 'append(next, r)'. -/
theorem RunesAt.one {w : World} {nx : Value} {ln : List Int} (hn : RunesAt w nx ln) (c : Int) (hl : ln.length ≤ 4294967296) :
    ∃ v' w', (∀ ty, (Builtin.append_ #[28, 28] ty #[nx, .slice (some ⟨w.heap.size, 0, none⟩) 1 1]).run Try.prog (w.alloc (.cells #[.int .i32 c] 21)) = .ok v' w') ∧ RunesAt w' v' (ln ++ [c]) ∧ Kept (fun k => nx.ownBlock = some k) w w' ∧ (∀ k, v'.ownBlock = some k → nx.ownBlock = some k ∨ w.heap.size ≤ k) := by
  obtain ⟨i0, hi0, hz0, hzs, hzb⟩ := info_parts info_i32
  have hk : Kept (fun _ => False) w (w.alloc (.cells #[.int .i32 c] 21)) := (Kept.refl _ w).alloc _
  have hnb : (w.alloc (.cells #[.int .i32 c] 21)).heap[w.heap.size]? = some (.cells #[.int .i32 c] 21 (0, 0)) := heap_alloc_new w _
  obtain ⟨v', w1, hr, hown', hkp, hblk⟩ := append_any Try.prog _ 28 28 21 i0 _ 1 4 Try.underlying28 hi0 hz0 hzs hzb rfl (by decide) nx ln.length _ (ownsRow_kept hn hk (fun _ _ h => h)) (.slice (some ⟨w.heap.size, 0, none⟩) 1 1) 1 ([c].map fun c => Value.int .i32 c)
    (Src.ofSlice _ Try.underlying28 ⟨w.heap.size, 0, none⟩ 1 1 _ rfl (fun j u hj => by rw [Addr.add_lit, Lib.cell_of_heap hnb]; simpa using hj) (runes_oneCell _)) (by unfold maxLen; omega) (by omega)
  refine ⟨v', w1, hr, ?_, (hk.mono (fun _ _ h => h.elim)).trans hkp (fun _ _ h => h), fun k hk2 => ?_⟩
  · show w1.ownsRow 0 21 1 v' (ln ++ [c]).length ((ln ++ [c]).map _)
    rw [List.length_append, List.map_append]
    exact hown'
  · rcases hblk k hk2 with h | h
    · exact Or.inl h
    · exact Or.inr (Nat.le_trans hk.size h)

theorem RunesAt.kept {S : Nat → Prop} {w w' : World} {v : Value} {l : List Int} (h : RunesAt w v l) (k : Kept S w w') (hS : ∀ b, v.ownBlock = some b → ¬ S b) : RunesAt w' v l := ownsRow_kept h k hS

theorem insert_lone (k : Nat) (es : List El) (bp : Nat) (F : Nat → Prop) (w : World) (h : LPM w bp k es F) (hi : Inv es k 0) (hn : es.length ≤ k) (hk : k < 400) (at_ : Int) (ch : Nat) (chI : Int) (hchI : chI = ch) (hat2 : at_ ≤ 9223372036854775807) (tc tp : Nat) (hb : behindOf es at_ = some (tc, tp)) (hv : Lib.validRune ch = true) (hch : ch < 55296) :
    Calls Try.prog 15 #[.pointer (some ⟨bp, 0, none⟩), .int .i64 at_, .int .i32 chI] w fun e' w' =>
      e' = .returned (.tuple #[.string ⟨((lone1 k es []).makes true (tc, tp) ch).packet.toArray⟩, .int .i64 0]) ∧ LTurn bp F w w' (k + 1) (insertEl es (k + 1) 0 tc tp chI) := by
  subst hchI
  obtain ⟨lg, h1, h2⟩ := h
  have hR := makes_ins hi (by omega) (behind_name hi hb) hch
  have := insert_ok (lone1 k es lg) 1 bp F w h1 (lone1_fit (by omega) hi h2) (by rw [lone1_size]; omega) at_ ch hat2 tc tp hb hv hk (by show k < _; omega) hR
  rw [lone1_ins] at this
  refine this.mono ?_
  rintro e' w' ⟨rfl, F', a, b, c⟩
  exact ⟨rfl, F', ⟨_, a, logR_put h2 hR⟩, b, c⟩

theorem delete_lone (k : Nat) (es : List El) (bp : Nat) (F : Nat → Prop) (w : World) (h : LPM w bp k es F) (hi : Inv es k 0) (hn : es.length ≤ k) (hk : k < 400) (at_ : Int) (e : El) (hb : liveAt es at_ = some e) :
    Calls Try.prog 14 #[.pointer (some ⟨bp, 0, none⟩), .int .i64 at_] w fun e' w' =>
      e' = .returned (.tuple #[.string ⟨((lone1 k es []).makes false (e.clock, e.peer) 0).packet.toArray⟩, .int .i64 0]) ∧ LTurn bp F w w' (k + 1) (killEl es e.clock e.peer) := by
  obtain ⟨lg, h1, h2⟩ := h
  have he : e ∈ es := by obtain ⟨pre, post, rfl, _⟩ := liveAt_split es _ e hb; simp
  have hR := makes_del hi (by omega) he
  have := delete_ok (lone1 k es lg) 1 bp F w h1 (lone1_fit (by omega) hi h2) (by rw [lone1_size]; omega) at_ e hb hk (by show k < _; omega) hR
  rw [lone1_del] at this
  refine this.mono ?_
  rintro e' w' ⟨rfl, F', a, b, c⟩
  exact ⟨rfl, F', ⟨_, a, logR_put h2 hR⟩, b, c⟩

theorem runesAt_nil (w : World) : RunesAt w (.slice none 0 0) [] := World.ownsRow_nil _ _ _ _

end Go.Proofs.Ytgfafbanahiigaa
