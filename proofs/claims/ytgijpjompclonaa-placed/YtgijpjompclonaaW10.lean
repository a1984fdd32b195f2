import Derived.Test.YtgijpjompclonaaD9
set_option linter.unusedVariables false
set_option linter.unusedSimpArgs false
namespace Go.Proofs.Ytgijpjompclonaa
open Go.RowKit Go.Chorus

theorem deliver_ins' (bp me clock : Nat) (known : List Nat) (es : List El) (bk : Nat) (rv : Value) (w : World) (h : PeerAt w bp me clock known es bk rv) (hn : es.length ≤ 4294967295) (hkl : known.length ≤ 8)
    (p n c : Nat) (nI cI : Int) (hnI : nI = n) (hcI : cI = c) (sv : Value) (tc tp : Nat) (ch : Int) (x : Nat) (hx : known[p]? = some x) (hx2 : x < 4294967295) (hcl : clock < 4294967296) (hc : c < 4294967296)
    (h1 : ¬ 0 ≤ findFrom c p es 0) (h2 : placeOk tc tp es = true) :
    Calls Try.prog 44 #[.pointer (some ⟨bp, 0, none⟩), .agg #[.int .u8 1, .int .u8 p, .int .u32 nI, .int .u32 cI, sv, .int .u32 tc, .int .u8 tp, .int .i32 ch]] w fun e' w' =>
      e' = .returned (.tuple #[]) ∧ ∃ rv', PeerAt w' bp me (max clock c) (known.set p (x + 1)) (insertEl es c p tc tp ch) bk rv' ∧ Kept (Foot bp bk rv) w w' ∧ (∀ k, rv'.ownBlock = some k → rv.ownBlock = some k ∨ w.heap.size ≤ k) := by
  subst hnI; subst hcI
  exact deliver_ins bp me clock known es bk rv w h hn hkl p n c sv tc tp ch x hx hx2 hcl hc h1 h2

theorem deliver_del' (bp me clock : Nat) (known : List Nat) (es : List El) (bk : Nat) (rv : Value) (w : World) (h : PeerAt w bp me clock known es bk rv) (hn : es.length ≤ 4294967295) (hkl : known.length ≤ 8)
    (p n c : Nat) (nI cI : Int) (hnI : nI = n) (hcI : cI = c) (sv : Value) (tc tp : Nat) (ch : Int) (x : Nat) (hx : known[p]? = some x) (hx2 : x < 4294967295) (hcl : clock < 4294967296) (hc : c < 4294967296) :
    Calls Try.prog 44 #[.pointer (some ⟨bp, 0, none⟩), .agg #[.int .u8 2, .int .u8 p, .int .u32 nI, .int .u32 cI, sv, .int .u32 tc, .int .u8 tp, .int .i32 ch]] w fun e' w' =>
      e' = .returned (.tuple #[]) ∧ PeerAt w' bp me (max clock c) (known.set p (x + 1)) (killEl es tc tp) bk rv ∧ Kept (Foot bp bk rv) w w' := by
  subst hnI; subst hcI
  exact deliver_del bp me clock known es bk rv w h hn hkl p n c sv tc tp ch x hx hx2 hcl hc

theorem packet_any' (kd p n c ch : Nat) (kdI nI cI chI : Int) (hkI : kdI = kd) (hnI : nI = n) (hcI : cI = c) (hchI : chI = ch) (seen : List Nat) (bs scap : Nat) (tc tp : Nat) (w : World) (hkd : kd = 1 ∨ kd = 2) (hp : p < 256) (hn : n < 4294967296) (hc : c < 4294967296) (htc : tc < 4294967296) (htp : tp < 256) (hch : ch ≤ 1114111)
    (hsl : seen.length ≤ 8) (hsf : ∀ x ∈ seen, x < 4294967296) (hs : ∀ (i x : Nat), seen[i]? = some x → w.cell? ⟨bs, i, none⟩ = some (.int .u32 (x : Int))) :
    Calls Try.prog 45 #[.agg #[.int .u8 kdI, .int .u8 p, .int .u32 nI, .int .u32 cI, .slice (some ⟨bs, 0, none⟩) seen.length scap, .int .u32 tc, .int .u8 tp, .int .i32 chI]] w fun e' w' =>
      e' = .returned (.string ⟨(packetOf kd p n c seen tc tp ch).toArray⟩) ∧ Kept (fun _ => False) w w' := by
  subst hkI; subst hnI; subst hcI; subst hchI
  exact packet_any kd p n c seen bs scap tc tp ch w hkd hp hn hc htc htp hch hsl hsf hs

/-- The box of the operation that is being made. -/
def boxOf (kd : Int) (me x clock : Nat) (sv : Value) (tc tp ch : Nat) : Array Value := #[.int .u8 kd, .int .u8 me, .int .u32 ((x : Int) + 1), .int .u32 ((clock : Int) + 1), sv, .int .u32 tc, .int .u8 tp, .int .i32 ch]

set_option maxHeartbeats 1000000 in
set_option maxRecDepth 100000 in
theorem perform_ins (bp me clock : Nat) (known : List Nat) (es : List El) (bk : Nat) (rv : Value) (w : World) (h : PeerAt w bp me clock known es bk rv) (hn : es.length ≤ 4294967295) (hkl : known.length ≤ 8) (hfk : ∀ n ∈ known, n < 4294967296)
    (tc tp ch : Nat) (x : Nat) (hx : known[me]? = some x) (hx2 : x < 400) (hcl : clock < 4294967295) (hme : me < 8) (htc : tc < 4294967296) (htp : tp < 256) (hch : ch ≤ 1114111)
    (h1 : ¬ 0 ≤ findFrom ((clock + 1 : Nat) : Int) me es 0) (h2 : placeOk tc tp es = true) :
    Calls Try.prog 25 #[.pointer (some ⟨bp, 0, none⟩), .agg #[.int .u8 1, .int .u8 0, .int .u32 0, .int .u32 0, .slice none 0 0, .int .u32 tc, .int .u8 tp, .int .i32 ch]] w fun e' w' =>
      e' = .returned (.tuple #[.string ⟨(packetOf 1 me (x + 1) (clock + 1) known tc tp ch).toArray⟩, .int .i64 0]) ∧ ∃ rv', PeerAt w' bp me (clock + 1) (known.set me (x + 1)) (insertEl es (clock + 1) me tc tp ch) bk rv' ∧ Kept (Foot bp bk rv) w w' ∧ (∀ k, rv'.ownBlock = some k → rv.ownBlock = some k ∨ w.heap.size ≤ k) := by
  obtain ⟨c0, c1, c2, c3⟩ := h.cells
  have hbw := lt_of_heap h.block
  have hkw := lt_of_heap h.knownB
  have hne := h.ne
  have ck : w.cell? ⟨bk, me, none⟩ = some (.int .u32 (x : Int)) := by rw [Lib.cell_of_heap h.knownB, u32s_at, hx]; rfl
  have hpl : me < known.length := (List.getElem?_eq_some_iff.1 hx).1
  have hpl2 : (me : Int) < (known.length : Int) := by omega
  have HX : Hid (known[me]? = some x) := hx
  clear hx
  go_enter Try.func25, Try.ntmps25
  go_wp2
  go_region
  go_wp2
  go_region
  go_wp2_with fail
  refine (clone_any bk known.length known _ (by omega) (by omega) ?_).mono ?_
  · intro i n hi
    exact ((((Kept.refl (fun _ => False) w).alloc _).drew).drew).cell' (p := ⟨bk, i, none⟩) (by rw [Lib.cell_of_heap h.knownB, u32s_at, hi]; rfl) (fun h => h)
  rintro e1 w1 ⟨v1, rfl, hN1, hk1, hb1⟩
  have hkw1 : Kept (fun _ => False) w w1 := ((((Kept.refl (fun _ => False) w).alloc _).drew).drew).trans' hk1
  have hbox1 : w1.heap[w.heap.size]? = some (.cells #[.int .u8 1, .int .u8 me, .int .u32 ((x : Int) + 1), .int .u32 ((clock : Int) + 1), .slice none 0 0, .int .u32 tc, .int .u8 tp, .int .i32 ch] 82 (0, 0)) := hk1.heap (heap_alloc_new w _) (fun h => h)
  obtain ⟨g1, cap1, cur1, rfl, hgb1, hcells1⟩ : ∃ g1 cap1 cur1, v1 = .slice (some ⟨g1, 0, none⟩) known.length cap1 ∧ w1.heap[g1]? = some (.cells cur1 69 (0, 0)) ∧ ∀ (i n : Nat), known[i]? = some n → cur1[i]? = some (.int .u32 (n : Int)) := by
    rcases hN1.2 with ⟨_, h0⟩ | ⟨g, cap, cur, hv, _, hg, _, _, _, htk⟩
    · omega
    · refine ⟨g, cap, cur, hv, hg, fun i n hi => ?_⟩
      have hil : i < known.length := (List.getElem?_eq_some_iff.1 hi).1
      rw [← Array.getElem?_toList]
      have e1 : (known.map fun (n : Nat) => Value.int .u32 n)[i]? = some (.int .u32 (n : Int)) := by simp [hi]
      rw [← e1, ← htk, List.getElem?_take, if_pos (by omega)]
  have hg1w : w.heap.size ≤ g1 := by have := hb1 g1 rfl; simp at this; omega
  have hg1b : g1 ≠ w.heap.size := by
    intro e; rw [e, hbox1] at hgb1; simp at hgb1
  obtain ⟨W, hW⟩ : ∃ W, W = w1.setCell ⟨w.heap.size, 4, none⟩ (.slice (some ⟨g1, 0, none⟩) known.length cap1) := ⟨_, rfl⟩
  have hkW : Kept (fun _ => False) w W := by rw [hW]; exact hkw1.setCell (fun h => absurd h (Nat.lt_irrefl _)) _
  have hboxW : W.heap[w.heap.size]? = some (.cells #[.int .u8 1, .int .u8 me, .int .u32 ((x : Int) + 1), .int .u32 ((clock : Int) + 1), .slice (some ⟨g1, 0, none⟩) known.length cap1, .int .u32 tc, .int .u8 tp, .int .i32 ch] 82 (0, 0)) := by
    rw [hW, heap_set_same hbox1]; rfl
  have hgW : W.heap[g1]? = some (.cells cur1 69 (0, 0)) := by
    rw [hW, Below.heap_setCell _ _ _ _ hg1b]; exact hgb1
  have hPW : PeerAt W bp me clock known es bk rv := ⟨hkW.heap h.block (fun h => h), hkW.heap h.knownB (fun h => h), ownsRow_kept h.row hkW (fun _ _ h => h)⟩
  have HW : Hid (W = w1.setCell ⟨w.heap.size, 4, none⟩ (.slice (some ⟨g1, 0, none⟩) known.length cap1)) := hW
  have y4 : w1.cell? ⟨w.heap.size, 4, none⟩ = some (.slice none 0 0) := by rw [Lib.cell_of_heap hbox1]; rfl
  have fz : ∀ j, w1.frozen? ⟨w.heap.size, j, none⟩ = false := Lib.frozen_of_heap hbox1
  have y0 : w1.cell? ⟨w.heap.size, 0, none⟩ = some (.int .u8 1) := by rw [Lib.cell_of_heap hbox1]; rfl
  have y1 : w1.cell? ⟨w.heap.size, 1, none⟩ = some (.int .u8 me) := by rw [Lib.cell_of_heap hbox1]; rfl
  have y2 : w1.cell? ⟨w.heap.size, 2, none⟩ = some (.int .u32 ((x : Int) + 1)) := by rw [Lib.cell_of_heap hbox1]; rfl
  have y3 : w1.cell? ⟨w.heap.size, 3, none⟩ = some (.int .u32 ((clock : Int) + 1)) := by rw [Lib.cell_of_heap hbox1]; rfl
  have y5 : w1.cell? ⟨w.heap.size, 5, none⟩ = some (.int .u32 tc) := by rw [Lib.cell_of_heap hbox1]; rfl
  have y6 : w1.cell? ⟨w.heap.size, 6, none⟩ = some (.int .u8 tp) := by rw [Lib.cell_of_heap hbox1]; rfl
  have y7 : w1.cell? ⟨w.heap.size, 7, none⟩ = some (.int .i32 ch) := by rw [Lib.cell_of_heap hbox1]; rfl
  clear hW hk1 hN1 hbox1 hgb1 hkw1 c0 c1 c2 c3 ck
  go_wp2_with fail
  rw [← HW.out]
  refine (deliver_ins' bp me clock known es bk rv W hPW hn hkl me (x + 1) (clock + 1) _ _ (by omega) (by omega) _ tc tp ch x HX.out (by omega) (by omega) (by omega) (by omega) h2).mono ?_
  rintro e2 w2 ⟨rfl, rv2, hP2, hK2, hB2⟩
  have hfoot : ∀ k, w.heap.size ≤ k → ¬ Foot bp bk rv k := fun k hk hf => by
    rcases hf with rfl | rfl | hf
    · omega
    · omega
    · have := (h.row.lt k hf).2; omega
  have hbox2 := hK2.heap hboxW (hfoot _ (Nat.le_refl _))
  have hg2 := hK2.heap hgW (hfoot _ hg1w)
  have hcells2 : ∀ (i n : Nat), known[i]? = some n → w2.cell? ⟨g1, i, none⟩ = some (.int .u32 (n : Int)) := fun i n hi => by rw [Lib.cell_of_heap hg2]; exact hcells1 i n hi
  have HF : Hid (∃ rv', PeerAt w2 bp me (clock + 1) (known.set me (x + 1)) (insertEl es (clock + 1) me tc tp ch) bk rv' ∧ Kept (Foot bp bk rv) w w2 ∧ (∀ k, rv'.ownBlock = some k → rv.ownBlock = some k ∨ w.heap.size ≤ k)) := by
    refine ⟨rv2, ?_, (hkW.mono (fun _ _ h => h.elim)).trans hK2 (fun _ _ h => h), fun k hk => ?_⟩
    · rw [show max clock (clock + 1) = clock + 1 by omega] at hP2; exact hP2
    · rcases hB2 k hk with hh | hh
      · exact Or.inl hh
      · exact Or.inr (Nat.le_trans hkW.size hh)
  clear y0 y1 y2 y3 y4 y5 y6 y7 fz HW hP2 hK2 hB2 hPW hkW hboxW hgW hg2 hfoot hcells1
  have y0 : w2.cell? ⟨w.heap.size, 0, none⟩ = some (.int .u8 1) := by rw [Lib.cell_of_heap hbox2]; rfl
  have y1 : w2.cell? ⟨w.heap.size, 1, none⟩ = some (.int .u8 me) := by rw [Lib.cell_of_heap hbox2]; rfl
  have y2 : w2.cell? ⟨w.heap.size, 2, none⟩ = some (.int .u32 ((x : Int) + 1)) := by rw [Lib.cell_of_heap hbox2]; rfl
  have y3 : w2.cell? ⟨w.heap.size, 3, none⟩ = some (.int .u32 ((clock : Int) + 1)) := by rw [Lib.cell_of_heap hbox2]; rfl
  have y4 : w2.cell? ⟨w.heap.size, 4, none⟩ = some (.slice (some ⟨g1, 0, none⟩) known.length cap1) := by rw [Lib.cell_of_heap hbox2]; rfl
  have y5 : w2.cell? ⟨w.heap.size, 5, none⟩ = some (.int .u32 tc) := by rw [Lib.cell_of_heap hbox2]; rfl
  have y6 : w2.cell? ⟨w.heap.size, 6, none⟩ = some (.int .u8 tp) := by rw [Lib.cell_of_heap hbox2]; rfl
  have y7 : w2.cell? ⟨w.heap.size, 7, none⟩ = some (.int .i32 ch) := by rw [Lib.cell_of_heap hbox2]; rfl
  have HC : Hid (∀ (i n : Nat), known[i]? = some n → w2.cell? ⟨g1, i, none⟩ = some (.int .u32 (n : Int))) := hcells2
  clear hcells2 hbox2
  go_wp2_with fail
  refine (packet_any' 1 me (x + 1) (clock + 1) ch _ _ _ _ (by omega) (by omega) (by omega) rfl known g1 cap1 tc tp w2 (Or.inl rfl) (by omega) (by omega) (by omega) htc htp hch hkl hfk HC.out).mono ?_
  rintro e3 w3 ⟨rfl, hk3⟩
  have HG : Hid (∃ rv', PeerAt w3 bp me (clock + 1) (known.set me (x + 1)) (insertEl es (clock + 1) me tc tp ch) bk rv' ∧ Kept (Foot bp bk rv) w w3 ∧ (∀ k, rv'.ownBlock = some k → rv.ownBlock = some k ∨ w.heap.size ≤ k)) := by
    obtain ⟨rv', z1, z2, z3⟩ := HF.out
    exact ⟨rv', ⟨hk3.heap z1.block (fun h => h), hk3.heap z1.knownB (fun h => h), ownsRow_kept z1.row hk3 (fun _ _ h => h)⟩, z2.trans hk3 (fun _ _ h => h.elim), z3⟩
  clear y0 y1 y2 y3 y4 y5 y6 y7 HF HC hk3
  go_wp2
  go_ret2
  exact ⟨rfl, HG.out⟩

end Go.Proofs.Ytgijpjompclonaa
