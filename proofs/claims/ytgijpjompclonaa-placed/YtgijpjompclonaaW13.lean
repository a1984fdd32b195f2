import Derived.Test.YtgijpjompclonaaW12
import Derived.Test.YtgijpjompclonaaApp2
import Derived.Deep.DeepCutAuto
set_option linter.unusedVariables false
set_option linter.unusedSimpArgs false
namespace Go.Proofs.Ytgijpjompclonaa
open Go.RowKit Go.Chorus

theorem info_i32 : (Try.prog.info? 21).map (fun i => (i.zero, i.size, i.bytes)) = some (some (.int .i32 0), 1, 4) := by kernel_rfl

/-- A list of characters that the law owns. -/
def RunesAt (w : World) (v : Value) (l : List Int) : Prop := w.ownsRow 0 21 1 v l.length (l.map fun c => Value.int .i32 c)

theorem runes_oneCell (l : List Int) : ∀ v ∈ (l.map fun c => Value.int .i32 c), v.oneCell' = true := by
  intro v hv
  simp only [List.mem_map] at hv
  obtain ⟨b, _, rfl⟩ := hv
  rfl

theorem RunesAt.cells {w : World} {v : Value} {l : List Int} (h : RunesAt w v l) : ∃ a cp, v = .slice a l.length cp ∧ cp ≤ maxLen ∧ l.length ≤ cp ∧ (a = none → l = []) ∧ (∀ ad, a = some ad → ∃ g, ad = ⟨g, 0, none⟩ ∧ ∀ i c, l[i]? = some c → w.cell? ⟨g, i, none⟩ = some (.int .i32 c)) := by
  rcases h.2 with ⟨rfl, h0⟩ | ⟨g, cap, cur, rfl, _, hg, hnc, hm, _, htk⟩
  · exact ⟨none, 0, by rw [h0], by unfold maxLen; omega, by omega, fun _ => List.length_eq_zero_iff.1 h0, fun ad h => by cases h⟩
  · refine ⟨_, cap, rfl, hm, hnc, ?_, ?_⟩
    · intro hh; cases hh
    intro ad had
    cases had
    refine ⟨g, rfl, fun i c hc => ?_⟩
    have hil : i < l.length := (List.getElem?_eq_some_iff.1 hc).1
    have : (l.map fun c => Value.int .i32 c)[i]? = some (.int .i32 c) := by simp [hc]
    rw [Lib.cell_of_heap hg, ← Array.getElem?_toList, ← this, ← htk, List.getElem?_take, if_pos (by omega)]

/-- 'string(l)'. -/
theorem RunesAt.str {w : World} {v : Value} {l : List Int} (h : RunesAt w v l) (hok : ∀ c ∈ l, okRune c) : (convert 31 9 v).run Try.prog w = .ok (.string ⟨(bytesOf l).toArray⟩) w := by
  obtain ⟨a, cp, rfl, _, _, h0, h1⟩ := h.cells
  cases a with
  | none =>
    obtain rfl := h0 rfl
    rw [run_convert_runes_nil w 31 9 21 _ cp Try.underlying31 Try.underlying21 Try.underlying9]
    rfl
  | some ad =>
    obtain ⟨g, rfl, hc⟩ := h1 ad rfl
    rw [run_convert_runes w 31 9 21 ⟨g, 0, none⟩ l.length cp l (Nat.le_refl _) Try.underlying31 Try.underlying21 Try.underlying9 (fun j hj => by
      rw [Addr.add_lit, Nat.zero_add]
      rw [hc j _ (List.getElem?_eq_getElem hj)]
      simp [List.getD, List.getElem?_eq_getElem hj])]
    rw [List.take_length, runesBytes_eq l hok]; rfl

/-- 'append(next, l[lo:hi]...)': what is cut out of the list goes behind. -/
theorem RunesAt.cut {w : World} {v nx : Value} {l ln : List Int} (h : RunesAt w v l) (hn : RunesAt w nx ln) (lo hi : Nat) (h1 : lo ≤ hi) (h2 : hi ≤ l.length) (hl : ln.length + l.length ≤ 4294967296)
    (x : Value) (hx : ∃ a cp cp', v = .slice a l.length cp ∧ (x = .slice (a.map fun ad => ad.add lo) (hi - lo) cp' ∨ (hi - lo = 0 ∧ ∃ a', x = .slice a' 0 cp'))) :
    ∃ v' w', (∀ ty, (Builtin.append_ #[31, 31] ty #[nx, x]).run Try.prog w = .ok v' w') ∧ RunesAt w' v' (ln ++ (l.drop lo).take (hi - lo)) ∧ Kept (fun k => nx.ownBlock = some k) w w' ∧ (∀ k, v'.ownBlock = some k → nx.ownBlock = some k ∨ w.heap.size ≤ k) := by
  obtain ⟨i0, hi0, hz0, hzs, hzb⟩ := info_parts info_i32
  have hsub : ((l.drop lo).take (hi - lo)).length = hi - lo := by rw [List.length_take, List.length_drop]; omega
  have hsrc : Src Try.prog 1 31 x (hi - lo) (((l.drop lo).take (hi - lo)).map fun c => Value.int .i32 c) w := by
    obtain ⟨a, cp, cp', hv, hx⟩ := hx
    obtain ⟨a2, cp2, hv2, _, _, g0, g1⟩ := h.cells
    have haa : a = a2 := by rw [hv] at hv2; injection hv2
    subst haa
    rcases hx with rfl | ⟨hz, a', rfl⟩
    · cases a with
      | none =>
        have hl0 := g0 rfl
        subst hl0
        have : hi - lo = 0 := by simp at h2; omega
        rw [this]
        exact Src.ofNil w Try.underlying31 cp'
      | some ad =>
        obtain ⟨g, rfl, hc⟩ := g1 ad rfl
        refine Src.ofSlice w Try.underlying31 _ (hi - lo) cp' _ (by rw [List.length_map, hsub, Nat.mul_one]) (fun j u hj => ?_) (runes_oneCell _)
        simp only [List.getElem?_map, Option.map_eq_some_iff] at hj
        obtain ⟨c, hcj, rfl⟩ := hj
        show w.cell? (((⟨g, 0, none⟩ : Addr).add lo).add j) = _
        rw [Addr.add_lit, Addr.add_lit, Nat.zero_add]
        rw [List.getElem?_take] at hcj
        split at hcj
        · rw [List.getElem?_drop] at hcj
          exact hc _ c hcj
        · cases hcj
    · rw [hz]
      simp only [List.take_zero, List.map_nil]
      cases a' with
      | none => exact Src.ofNil w Try.underlying31 cp'
      | some ad => exact Src.ofSlice w Try.underlying31 ad 0 cp' [] rfl (fun j u hj => by simp at hj) (fun u hu => by cases hu)
  obtain ⟨v', w', hr, r1, r2, r3⟩ := append_any Try.prog w 31 31 21 i0 _ 1 4 Try.underlying31 hi0 hz0 hzs hzb rfl (by decide) nx ln.length _ hn x (hi - lo) _ hsrc (by unfold maxLen; omega) (by omega)
  refine ⟨v', w', hr, ?_, r2, r3⟩
  show w'.ownsRow 0 21 1 v' (ln ++ (l.drop lo).take (hi - lo)).length ((ln ++ (l.drop lo).take (hi - lo)).map _)
  rw [List.length_append, hsub, List.map_append]
  exact r1

/-- The script's steps, as far as the law reads them. -/
def StepsAt (w : World) (a : Option Addr) (n : Nat) : Prop :=
  ∀ i, i < n → ∃ (b off : Nat) (kd at_ : Int), a = some ⟨b, off, none⟩ ∧ w.cell? ⟨b, off + i * 4, none⟩ = some (.int .i64 kd) ∧ w.cell? ⟨b, off + i * 4 + 2, none⟩ = some (.int .i64 at_) ∧
    -9223372036854775808 ≤ kd ∧ kd ≤ 9223372036854775807 ∧ -9223372036854775808 ≤ at_ ∧ at_ ≤ 9223372036854775807

theorem StepsAt.kept {w w' : World} {a : Option Addr} {n : Nat} (h : StepsAt w a n) (k : Kept (fun _ => False) w w') : StepsAt w' a n := fun i hi => by
  obtain ⟨b, off, kd, at_, h1, h2, h3, h4⟩ := h i hi
  exact ⟨b, off, kd, at_, h1, k.cell' h2 (fun h => h), k.cell' h3 (fun h => h), h4⟩

/-- What holds at each round's head. -/
structure PlacedSt (w wr : World) (bp bk : Nat) (k : Nat) (l : Value) (lr : List Int) (es : List El) (rv : Value) : Prop where
  peer : PeerAt wr bp 0 k [k] es bk rv
  inv : Inv es k 0
  chars : chars es = lr
  len : es.length ≤ k
  runes : RunesAt wr l lr
  ok : ∀ c ∈ lr, 19968 ≤ c ∧ c < 20088
  kept : Kept (fun _ => False) w wr
  own : ∀ j, rv.ownBlock = some j → w.heap.size ≤ j
  ownL : ∀ j, l.ownBlock = some j → w.heap.size ≤ j

/-- 'append(next, l[:hi]...)'. -/
theorem RunesAt.head {w : World} {nx : Value} {l ln : List Int} {a : Option Addr} {cp : Nat} (h : RunesAt w (.slice a l.length cp) l) (hn : RunesAt w nx ln) (hi : Nat) (h2 : hi ≤ l.length) (hl : ln.length + l.length ≤ 4294967296) :
    ∃ v' w', (∀ ty, (Builtin.append_ #[31, 31] ty #[nx, .slice a hi cp]).run Try.prog w = .ok v' w') ∧ RunesAt w' v' (ln ++ l.take hi) ∧ Kept (fun k => nx.ownBlock = some k) w w' ∧ (∀ k, v'.ownBlock = some k → nx.ownBlock = some k ∨ w.heap.size ≤ k) := by
  have := h.cut hn 0 hi (Nat.zero_le _) h2 hl (.slice a hi cp) ⟨a, cp, cp, rfl, Or.inl (by
    have : a.map (fun ad => ad.add 0) = a := by
      cases a with
      | none => rfl
      | some ad => obtain ⟨a2, cp2, hv, _, _, _, h1⟩ := h.cells; injection hv with hv1; subst hv1; obtain ⟨g, rfl, _⟩ := h1 ad rfl; rfl
    rw [this, Nat.sub_zero])⟩
  simpa using this

/-- 'append(next, l[lo:]...)', where the list is not nil. -/
theorem RunesAt.tail {w : World} {nx : Value} {l ln : List Int} {g cp : Nat} (h : RunesAt w (.slice (some ⟨g, 0, none⟩) l.length cp) l) (hn : RunesAt w nx ln) (lo : Nat) (h2 : lo ≤ l.length) (hl : ln.length + l.length ≤ 4294967296) (cp' o : Nat) (ho : o = lo ∨ l.length - lo = 0) :
    ∃ v' w', (∀ ty, (Builtin.append_ #[31, 31] ty #[nx, .slice (some ⟨g, o, none⟩) (l.length - lo) cp']).run Try.prog w = .ok v' w') ∧ RunesAt w' v' (ln ++ l.drop lo) ∧ Kept (fun k => nx.ownBlock = some k) w w' ∧ (∀ k, v'.ownBlock = some k → nx.ownBlock = some k ∨ w.heap.size ≤ k) := by
  have := h.cut hn lo l.length h2 (Nat.le_refl _) hl (.slice (some ⟨g, o, none⟩) (l.length - lo) cp') ⟨_, cp, cp', rfl, by
    rcases ho with rfl | ho
    · left; show _ = Value.slice (some ((⟨g, 0, none⟩ : Addr).add o)) _ _; rw [Addr.add_lit, Nat.zero_add]
    · right; exact ⟨ho, _, by rw [ho]⟩⟩
  rw [List.take_of_length_le (by simp)] at this
  exact this

/-- 'append(next, r)'. -/
theorem RunesAt.one {w : World} {nx : Value} {ln : List Int} (hn : RunesAt w nx ln) (c : Int) (hl : ln.length ≤ 4294967296) :
    ∃ v' w', (∀ ty, (Builtin.append_ #[31, 31] ty #[nx, .slice (some ⟨w.heap.size, 0, none⟩) 1 1]).run Try.prog (w.alloc (.cells #[.int .i32 c] 21)) = .ok v' w') ∧ RunesAt w' v' (ln ++ [c]) ∧ Kept (fun k => nx.ownBlock = some k) w w' ∧ (∀ k, v'.ownBlock = some k → nx.ownBlock = some k ∨ w.heap.size ≤ k) := by
  obtain ⟨i0, hi0, hz0, hzs, hzb⟩ := info_parts info_i32
  have hk : Kept (fun _ => False) w (w.alloc (.cells #[.int .i32 c] 21)) := (Kept.refl _ w).alloc _
  have hnb : (w.alloc (.cells #[.int .i32 c] 21)).heap[w.heap.size]? = some (.cells #[.int .i32 c] 21 (0, 0)) := heap_alloc_new w _
  obtain ⟨v', w1, hr, hown', hkp, hblk⟩ := append_any Try.prog _ 31 31 21 i0 _ 1 4 Try.underlying31 hi0 hz0 hzs hzb rfl (by decide) nx ln.length _ (ownsRow_kept hn hk (fun _ _ h => h)) (.slice (some ⟨w.heap.size, 0, none⟩) 1 1) 1 ([c].map fun c => Value.int .i32 c)
    (Src.ofSlice _ Try.underlying31 ⟨w.heap.size, 0, none⟩ 1 1 _ rfl (fun j u hj => by rw [Addr.add_lit, Lib.cell_of_heap hnb]; simpa using hj) (runes_oneCell _)) (by unfold maxLen; omega) (by omega)
  refine ⟨v', w1, hr, ?_, (hk.mono (fun _ _ h => h.elim)).trans hkp (fun _ _ h => h), fun k hk2 => ?_⟩
  · show w1.ownsRow 0 21 1 v' (ln ++ [c]).length ((ln ++ [c]).map _)
    rw [List.length_append, List.map_append]
    exact hown'
  · rcases hblk k hk2 with h | h
    · exact Or.inl h
    · exact Or.inr (Nat.le_trans hk.size h)

theorem RunesAt.kept {S : Nat → Prop} {w w' : World} {v : Value} {l : List Int} (h : RunesAt w v l) (k : Kept S w w') (hS : ∀ b, v.ownBlock = some b → ¬ S b) : RunesAt w' v l := ownsRow_kept h k hS

theorem PeerAt.kept {S : Nat → Prop} {w w' : World} {bp me clock : Nat} {known : List Nat} {es : List El} {bk : Nat} {rv : Value} (h : PeerAt w bp me clock known es bk rv) (k : Kept S w w') (h1 : ¬ S bp) (h2 : ¬ S bk) (h3 : ∀ b, rv.ownBlock = some b → ¬ S b) : PeerAt w' bp me clock known es bk rv :=
  ⟨k.heap h.block h1, k.heap h.knownB h2, ownsRow_kept h.row k h3⟩

/-- No block of a list of characters is a peer's. -/
theorem runes_not_foot {w : World} {bp me clock : Nat} {known : List Nat} {es : List El} {bk : Nat} {rv v : Value} {l : List Int} (h : PeerAt w bp me clock known es bk rv) (hl : RunesAt w v l) : ∀ b, v.ownBlock = some b → ¬ Foot bp bk rv b := by
  intro b hb hf
  rcases hf with rfl | rfl | hf
  · exact own_ne hl h.block (by decide) hb
  · exact own_ne hl h.knownB (by decide) hb
  · rcases h.row.2 with ⟨rfl, _⟩ | ⟨g, cap, cur, rfl, _, hg, _⟩
    · simp [Value.ownBlock] at hf
    · simp only [Value.ownBlock, Option.some.injEq] at hf
      subst hf
      exact own_ne hl hg (by decide) hb

/-- .. and the other way round: writing to a list of characters turns no peer. -/
theorem peer_runes {w w' : World} {bp me clock : Nat} {known : List Nat} {es : List El} {bk : Nat} {rv v : Value} {l : List Int} (h : PeerAt w bp me clock known es bk rv) (hl : RunesAt w v l) (k : Kept (fun j => v.ownBlock = some j) w w') : PeerAt w' bp me clock known es bk rv :=
  h.kept k (fun e => runes_not_foot h hl _ e (Or.inl rfl)) (fun e => runes_not_foot h hl _ e (Or.inr (Or.inl rfl))) (fun b hb e => runes_not_foot h hl _ e (Or.inr (Or.inr hb)))

theorem insert_ok' (bp me clock : Nat) (known : List Nat) (es : List El) (bk : Nat) (rv : Value) (w : World) (h : PeerAt w bp me clock known es bk rv) (hn : es.length ≤ 4294967295) (hkl : known.length ≤ 8) (hfk : ∀ n ∈ known, n < 4294967296)
    (at_ : Int) (ch : Nat) (chI : Int) (hchI : chI = ch) (hat2 : at_ ≤ 9223372036854775807) (tc tp : Nat) (hb : behindOf es at_ = some (tc, tp)) (hv : Lib.validRune ch = true)
    (x : Nat) (hx : known[me]? = some x) (hx2 : x < 400) (hcl : clock < 4294967295) (hme : me < 8) (htc : tc < 4294967296) (htp : tp < 256) (hch : ch ≤ 1114111)
    (h1 : ¬ 0 ≤ findFrom ((clock + 1 : Nat) : Int) me es 0) (h2 : placeOk tc tp es = true) :
    Calls Try.prog 13 #[.pointer (some ⟨bp, 0, none⟩), .int .i64 at_, .int .i32 chI] w fun e' w' =>
      e' = .returned (.tuple #[.string ⟨(packetOf 1 me (x + 1) (clock + 1) known tc tp ch).toArray⟩, .int .i64 0]) ∧ ∃ rv', PeerAt w' bp me (clock + 1) (known.set me (x + 1)) (insertEl es (clock + 1) me tc tp ch) bk rv' ∧ Kept (Foot bp bk rv) w w' ∧ (∀ k, rv'.ownBlock = some k → rv.ownBlock = some k ∨ w.heap.size ≤ k) := by
  subst hchI
  exact insert_ok bp me clock known es bk rv w h hn hkl hfk at_ ch hat2 tc tp hb hv x hx hx2 hcl hme htc htp hch h1 h2

theorem runesAt_nil (w : World) : RunesAt w (.slice none 0 0) [] := World.ownsRow_nil _ _ _ _

end Go.Proofs.Ytgijpjompclonaa
