import Derived.Test.YtgijpjompclonaaD10
import Derived.LaidEqlPtr
set_option linter.unusedVariables false
set_option linter.unusedSimpArgs false
namespace Go.Proofs.Ytgijpjompclonaa
open Go.RowKit Go.Chorus

set_option maxHeartbeats 1000000 in
theorem nameBehind_zero (bp : Nat) (at_ : Int) (w : World) (hat : at_ ≤ 0) :
    Calls Try.prog 26 #[.pointer (some ⟨bp, 0, none⟩), .int .i64 at_] w fun e' w' =>
      e' = .returned (.tuple #[.agg #[.int .u32 0, .int .u8 0], .bool (at_ == 0)]) ∧ Kept (fun _ => False) w w' := by
  go_enter Try.func26, Try.ntmps26
  go_wp2
  refine bodyPost_ret (v := .tuple #[.agg #[.int .u32 0, .int .u8 0], .bool (at_ == 0)]) (by simp [results, Try.results26, go_sem]) rfl ⟨rfl, ?_⟩
  exact (Kept.refl _ w).alloc _

set_option maxHeartbeats 1000000 in
theorem nameBehind_pos (bp : Nat) (at_ : Int) (es : List El) (rv : Value) (w : World) (h0 : w.cell? ⟨bp, 3, none⟩ = some rv) (hv : RowV w rv es) (hn : es.length ≤ 4294967296) (hat : 0 < at_) (hat2 : at_ ≤ 9223372036854775807) :
    Calls Try.prog 26 #[.pointer (some ⟨bp, 0, none⟩), .int .i64 at_] w fun e' w' =>
      e' = .returned (nameRet (liveAt es (at_ - 1))) ∧ Kept (fun _ => False) w w' := by
  have hbw := World.block_lt_of_cell? w _ h0
  go_enter Try.func26, Try.ntmps26
  go_wp2_with fail
  refine (nameAt_any _ es bp 3 rv _ (((Kept.refl (fun _ => False) w).alloc _).cell' h0 (fun h => h)) (hv.kept ((Kept.refl (fun _ => False) w).alloc _) (fun _ _ h => h)) hn).mono ?_
  rintro e2 w2 ⟨rfl, hk2⟩
  have hb2 : w2.heap[w.heap.size]? = some (.cells #[.int .u32 0, .int .u8 0] 76 (0, 0)) := hk2.heap (heap_alloc_new w _) (fun h => h)
  have d0 : w2.cell? ⟨w.heap.size, 0, none⟩ = some (.int .u32 0) := by rw [Lib.cell_of_heap hb2]; rfl
  have d1 : w2.cell? ⟨w.heap.size, 1, none⟩ = some (.int .u8 0) := by rw [Lib.cell_of_heap hb2]; rfl
  have fz : ∀ j, w2.frozen? ⟨w.heap.size, j, none⟩ = false := Lib.frozen_of_heap hb2
  have hkw : Kept (fun _ => False) w w2 := ((Kept.refl _ w).alloc _).trans' hk2
  clear hb2 hk2
  cases hl : liveAt es (at_ - 1) with
  | none =>
    rw [show nameRet (none : Option El) = .tuple #[.agg #[.int .u32 0, .int .u8 0], .bool false] from rfl]
    have HL : Hid (liveAt es (at_ - 1) = none) := hl
    clear hl
    go_wp2
    refine bodyPost_ret (v := .tuple #[.agg #[.int .u32 0, .int .u8 0], .bool false]) (by simp [results, Try.results26, go_sem, d0, d1]) rfl ⟨by rw [HL.out]; rfl, ?_⟩
    exact (hkw.setCell (fun h => absurd h (Nat.lt_irrefl _)) _).setCell (fun h => absurd h (Nat.lt_irrefl _)) _
  | some e =>
    rw [show nameRet (some e) = .tuple #[.agg #[.int .u32 e.clock, .int .u8 e.peer], .bool true] from rfl]
    have HL : Hid (liveAt es (at_ - 1) = some e) := hl
    clear hl
    go_wp2
    refine bodyPost_ret (v := .tuple #[.agg #[.int .u32 e.clock, .int .u8 e.peer], .bool true]) (by simp [results, Try.results26, go_sem, d0, d1]) rfl ⟨by rw [HL.out]; rfl, ?_⟩
    exact (hkw.setCell (fun h => absurd h (Nat.lt_irrefl _)) _).setCell (fun h => absurd h (Nat.lt_irrefl _)) _

set_option maxHeartbeats 1000000 in
theorem text_any (bp me clock : Nat) (known : List Nat) (es : List El) (bk : Nat) (rv : Value) (w : World) (h : PeerAt w bp me clock known es bk rv) (hn : es.length ≤ 4294967296) (hfit : ∀ e ∈ es, e.Fits) :
    Calls Try.prog 15 #[.pointer (some ⟨bp, 0, none⟩)] w fun e' w' =>
      e' = .returned (.string ⟨(textBytes es).toArray⟩) ∧ Kept (fun _ => False) w w' := by
  obtain ⟨c0, c1, c2, c3⟩ := h.cells
  go_enter Try.func15, Try.ntmps15
  go_wp2_with fail
  refine (rowText_any es bp 3 rv w c3 (rowV_of_own h.row) hn hfit).mono ?_
  rintro e2 w2 ⟨rfl, hk2⟩
  go_wp2
  go_ret
  exact ⟨rfl, hk2⟩

/-- Behind which element a character goes that is put in at a place. -/
def behindOf (es : List El) (at_ : Int) : Option (Nat × Nat) := if at_ = 0 then some (0, 0) else if at_ < 0 then none else (liveAt es (at_ - 1)).map fun e => (e.clock, e.peer)

def behindRet : Option (Nat × Nat) → Value
  | some t => .tuple #[.agg #[.int .u32 t.1, .int .u8 t.2], .bool true]
  | none => .tuple #[.agg #[.int .u32 0, .int .u8 0], .bool false]

theorem nameBehind_any (bp : Nat) (at_ : Int) (es : List El) (rv : Value) (w : World) (h0 : w.cell? ⟨bp, 3, none⟩ = some rv) (hv : RowV w rv es) (hn : es.length ≤ 4294967296) (hat2 : at_ ≤ 9223372036854775807) :
    Calls Try.prog 26 #[.pointer (some ⟨bp, 0, none⟩), .int .i64 at_] w fun e' w' =>
      e' = .returned (behindRet (behindOf es at_)) ∧ Kept (fun _ => False) w w' := by
  by_cases h1 : 0 < at_
  · refine (nameBehind_pos bp at_ es rv w h0 hv hn h1 hat2).mono ?_
    rintro e' w' ⟨rfl, hk⟩
    refine ⟨?_, hk⟩
    unfold behindOf
    rw [if_neg (by omega), if_neg (by omega)]
    cases liveAt es (at_ - 1) <;> rfl
  · refine (nameBehind_zero bp at_ w (by omega)).mono ?_
    rintro e' w' ⟨rfl, hk⟩
    refine ⟨?_, hk⟩
    unfold behindOf
    by_cases h2 : at_ = 0
    · subst h2; rfl
    · rw [if_neg h2, if_pos (by omega)]
      have : (at_ == 0) = false := by simpa using h2
      rw [this]; rfl

set_option maxHeartbeats 1000000 in
theorem insert_place (bp me clock : Nat) (known : List Nat) (es : List El) (bk : Nat) (rv : Value) (w : World) (h : PeerAt w bp me clock known es bk rv) (hn : es.length ≤ 4294967296) (at_ ch : Int) (hat2 : at_ ≤ 9223372036854775807) (hb : behindOf es at_ = none) :
    Calls Try.prog 13 #[.pointer (some ⟨bp, 0, none⟩), .int .i64 at_, .int .i32 ch] w fun e' w' =>
      e' = .returned (.tuple #[.string ⟨#[]⟩, .int .i64 2]) ∧ Kept (fun _ => False) w w' := by
  obtain ⟨c0, c1, c2, c3⟩ := h.cells
  have HB : Hid (behindOf es at_ = none) := hb
  clear hb
  go_enter Try.func13, Try.ntmps13
  go_wp2_with fail
  refine (nameBehind_any bp at_ es rv w c3 (rowV_of_own h.row) hn hat2).mono ?_
  rintro e2 w2 ⟨rfl, hk2⟩
  rw [HB.out, show behindRet none = .tuple #[.agg #[.int .u32 0, .int .u8 0], .bool false] from rfl]
  go_wp2
  go_ret2
  exact ⟨rfl, hk2.alloc _⟩

set_option maxHeartbeats 1000000 in
theorem insert_rune (bp me clock : Nat) (known : List Nat) (es : List El) (bk : Nat) (rv : Value) (w : World) (h : PeerAt w bp me clock known es bk rv) (hn : es.length ≤ 4294967296) (at_ ch : Int) (hat2 : at_ ≤ 9223372036854775807) (tc tp : Nat) (hb : behindOf es at_ = some (tc, tp)) (hv : Lib.validRune ch = false) :
    Calls Try.prog 13 #[.pointer (some ⟨bp, 0, none⟩), .int .i64 at_, .int .i32 ch] w fun e' w' =>
      e' = .returned (.tuple #[.string ⟨#[]⟩, .int .i64 3]) ∧ Kept (fun _ => False) w w' := by
  obtain ⟨c0, c1, c2, c3⟩ := h.cells
  have HB : Hid (behindOf es at_ = some (tc, tp)) := hb
  have HV : Hid (Lib.validRune ch = false) := hv
  clear hb hv
  go_enter Try.func13, Try.ntmps13
  go_wp2_with fail
  refine (nameBehind_any bp at_ es rv w c3 (rowV_of_own h.row) hn hat2).mono ?_
  rintro e2 w2 ⟨rfl, hk2⟩
  rw [HB.out, show behindRet (some (tc, tp)) = .tuple #[.agg #[.int .u32 tc, .int .u8 tp], .bool true] from rfl]
  go_wp2_with fail
  refine (Try.utf8_ValidRune ch _).mono ?_
  rintro e3 w3 ⟨rfl, rfl⟩
  rw [HV.out]
  go_wp2
  go_ret2
  exact ⟨rfl, hk2.alloc _⟩

set_option maxHeartbeats 1000000 in
theorem insert_ok (bp me clock : Nat) (known : List Nat) (es : List El) (bk : Nat) (rv : Value) (w : World) (h : PeerAt w bp me clock known es bk rv) (hn : es.length ≤ 4294967295) (hkl : known.length ≤ 8) (hfk : ∀ n ∈ known, n < 4294967296)
    (at_ : Int) (ch : Nat) (hat2 : at_ ≤ 9223372036854775807) (tc tp : Nat) (hb : behindOf es at_ = some (tc, tp)) (hv : Lib.validRune ch = true)
    (x : Nat) (hx : known[me]? = some x) (hx2 : x < 400) (hcl : clock < 4294967295) (hme : me < 8) (htc : tc < 4294967296) (htp : tp < 256) (hch : ch ≤ 1114111)
    (h1 : ¬ 0 ≤ findFrom ((clock + 1 : Nat) : Int) me es 0) (h2 : placeOk tc tp es = true) :
    Calls Try.prog 13 #[.pointer (some ⟨bp, 0, none⟩), .int .i64 at_, .int .i32 ch] w fun e' w' =>
      e' = .returned (.tuple #[.string ⟨(packetOf 1 me (x + 1) (clock + 1) known tc tp ch).toArray⟩, .int .i64 0]) ∧ ∃ rv', PeerAt w' bp me (clock + 1) (known.set me (x + 1)) (insertEl es (clock + 1) me tc tp ch) bk rv' ∧ Kept (Foot bp bk rv) w w' ∧ (∀ k, rv'.ownBlock = some k → rv.ownBlock = some k ∨ w.heap.size ≤ k) := by
  obtain ⟨c0, c1, c2, c3⟩ := h.cells
  have HB : Hid (behindOf es at_ = some (tc, tp)) := hb
  have HV : Hid (Lib.validRune ch = true) := hv
  have HX : Hid (known[me]? = some x) := hx
  have H1 : Hid (¬ 0 ≤ findFrom ((clock + 1 : Nat) : Int) me es 0) := h1
  have H2 : Hid (placeOk tc tp es = true) := h2
  clear hb hv hx h1 h2
  go_enter Try.func13, Try.ntmps13
  go_wp2_with fail
  refine (nameBehind_any bp at_ es rv w c3 (rowV_of_own h.row) (by omega) hat2).mono ?_
  rintro e2 w2 ⟨rfl, hk2⟩
  rw [HB.out, show behindRet (some (tc, tp)) = .tuple #[.agg #[.int .u32 tc, .int .u8 tp], .bool true] from rfl]
  go_wp2_with fail
  refine (Try.utf8_ValidRune ch _).mono ?_
  rintro e3 w3 ⟨rfl, rfl⟩
  rw [HV.out]
  have hk3 : Kept (fun _ => False) w (w2.alloc (.cells #[.int .u32 tc, .int .u8 tp] 76)) := hk2.alloc _
  go_wp2_with fail
  refine (perform_ins bp me clock known es bk rv _ ⟨hk3.heap h.block (fun h => h), hk3.heap h.knownB (fun h => h), ownsRow_kept h.row hk3 (fun _ _ h => h)⟩ hn hkl hfk tc tp ch x HX.out hx2 hcl hme htc htp hch (by have := H1.out; omega) H2.out).mono ?_
  rintro e4 w4 ⟨rfl, rv', z1, z2, z3⟩
  have HG : Hid (∃ rv', PeerAt w4 bp me (clock + 1) (known.set me (x + 1)) (insertEl es (clock + 1) me tc tp ch) bk rv' ∧ Kept (Foot bp bk rv) w w4 ∧ (∀ k, rv'.ownBlock = some k → rv.ownBlock = some k ∨ w.heap.size ≤ k)) :=
    ⟨rv', z1, (hk3.mono (fun _ _ h => h.elim)).trans z2 (fun _ _ h => h), fun k hk => by
      rcases z3 k hk with hh | hh
      · exact Or.inl hh
      · exact Or.inr (Nat.le_trans hk3.size hh)⟩
  clear z1 z2 z3
  go_wp2
  go_ret2
  exact ⟨rfl, HG.out⟩

set_option maxHeartbeats 1000000 in
theorem delete_place (bp me clock : Nat) (known : List Nat) (es : List El) (bk : Nat) (rv : Value) (w : World) (h : PeerAt w bp me clock known es bk rv) (hn : es.length ≤ 4294967296) (at_ : Int) (hb : liveAt es at_ = none) :
    Calls Try.prog 12 #[.pointer (some ⟨bp, 0, none⟩), .int .i64 at_] w fun e' w' =>
      e' = .returned (.tuple #[.string ⟨#[]⟩, .int .i64 2]) ∧ Kept (fun _ => False) w w' := by
  obtain ⟨c0, c1, c2, c3⟩ := h.cells
  have HB : Hid (liveAt es at_ = none) := hb
  clear hb
  go_enter Try.func12, Try.ntmps12
  go_wp2_with fail
  refine (nameAt_any at_ es bp 3 rv w c3 (rowV_of_own h.row) hn).mono ?_
  rintro e2 w2 ⟨rfl, hk2⟩
  rw [HB.out, show nameRet none = .tuple #[.agg #[.int .u32 0, .int .u8 0], .bool false] from rfl]
  go_wp2
  go_ret2
  exact ⟨rfl, hk2.alloc _⟩

set_option maxHeartbeats 1000000 in
theorem delete_ok (bp me clock : Nat) (known : List Nat) (es : List El) (bk : Nat) (rv : Value) (w : World) (h : PeerAt w bp me clock known es bk rv) (hn : es.length ≤ 4294967295) (hkl : known.length ≤ 8) (hfk : ∀ n ∈ known, n < 4294967296)
    (at_ : Int) (e : El) (hb : liveAt es at_ = some e)
    (x : Nat) (hx : known[me]? = some x) (hx2 : x < 400) (hcl : clock < 4294967295) (hme : me < 8) (htc : e.clock < 4294967296) (htp : e.peer < 256) :
    Calls Try.prog 12 #[.pointer (some ⟨bp, 0, none⟩), .int .i64 at_] w fun e' w' =>
      e' = .returned (.tuple #[.string ⟨(packetOf 2 me (x + 1) (clock + 1) known e.clock e.peer 0).toArray⟩, .int .i64 0]) ∧ ∃ rv', PeerAt w' bp me (clock + 1) (known.set me (x + 1)) (killEl es e.clock e.peer) bk rv' ∧ Kept (Foot bp bk rv) w w' ∧ (∀ k, rv'.ownBlock = some k → rv.ownBlock = some k ∨ w.heap.size ≤ k) := by
  obtain ⟨c0, c1, c2, c3⟩ := h.cells
  have HB : Hid (liveAt es at_ = some e) := hb
  have HX : Hid (known[me]? = some x) := hx
  clear hb hx
  go_enter Try.func12, Try.ntmps12
  go_wp2_with fail
  refine (nameAt_any at_ es bp 3 rv w c3 (rowV_of_own h.row) (by omega)).mono ?_
  rintro e2 w2 ⟨rfl, hk2⟩
  rw [HB.out, show nameRet (some e) = .tuple #[.agg #[.int .u32 e.clock, .int .u8 e.peer], .bool true] from rfl]
  have hk3 : Kept (fun _ => False) w (w2.alloc (.cells #[.int .u32 e.clock, .int .u8 e.peer] 76)) := hk2.alloc _
  have hperf := perform_del bp me clock known es bk rv _ ⟨hk3.heap h.block (fun h => h), hk3.heap h.knownB (fun h => h), ownsRow_kept h.row hk3 (fun _ _ h => h)⟩ hn hkl hfk e.clock e.peer 0 x HX.out hx2 hcl hme htc htp (by decide)
  go_wp2_with fail
  refine hperf.mono ?_
  rintro e4 w4 ⟨rfl, rv', z1, z2, z3⟩
  have HG : Hid (∃ rv', PeerAt w4 bp me (clock + 1) (known.set me (x + 1)) (killEl es e.clock e.peer) bk rv' ∧ Kept (Foot bp bk rv) w w4 ∧ (∀ k, rv'.ownBlock = some k → rv.ownBlock = some k ∨ w.heap.size ≤ k)) :=
    ⟨rv', z1, (hk3.mono (fun _ _ h => h.elim)).trans z2 (fun _ _ h => h), fun k hk => by
      rcases z3 k hk with hh | hh
      · exact Or.inl hh
      · exact Or.inr (Nat.le_trans hk3.size hh)⟩
  clear z1 z2 z3
  go_wp2
  go_ret2
  exact ⟨rfl, HG.out⟩

end Go.Proofs.Ytgijpjompclonaa
