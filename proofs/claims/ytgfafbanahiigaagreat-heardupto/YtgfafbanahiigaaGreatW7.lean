import Derived.Test.YtgfafbanahiigaaGreatW5
set_option linter.unusedVariables false
set_option linter.unusedSimpArgs false
namespace Go.Proofs.YtgfafbanahiigaaGreat
open Go.RowKit Go.Chorus

/-- A list of bytes that a call owns. -/
def BytesAt (w : World) (v : Value) (l : List UInt8) : Prop := w.ownsRow 0 5 1 v l.length (Lib.byteCells l)

set_option maxHeartbeats 1000000 in
set_option maxRecDepth 100000 in
theorem appendFour_any (v : Value) (l : List UInt8) (n : Nat) (w : World) (hn : n < 4294967296) (h : BytesAt w v l) (hl : l.length ≤ 4294967296) :
    Calls Tryz.prog 72 #[v, .int .u32 n] w fun e' w' =>
      ∃ v', e' = .returned v' ∧ BytesAt w' v' (l ++ four n) ∧ Kept (fun k => v.ownBlock = some k) w w' ∧ (∀ k, v'.ownBlock = some k → v.ownBlock = some k ∨ w.heap.size ≤ k) := by
  obtain ⟨i0, hi0, hz0, hzs, hzb⟩ := info_parts info_u8
  have hcells : Lib.byteCells (four n) = [.int .u8 ((n : Int) / 16777216), .int .u8 ((n : Int) / 65536 % 256), .int .u8 ((n : Int) / 256 % 256), .int .u8 ((n : Int) % 256)] := by
    rw [four_cells]
    have e1 : ((n / 16777216 % 256 : Nat) : Int) = (n : Int) / 16777216 := by omega
    have e2 : ((n / 65536 % 256 : Nat) : Int) = (n : Int) / 65536 % 256 := by omega
    have e3 : ((n / 256 % 256 : Nat) : Int) = (n : Int) / 256 % 256 := by omega
    have e4 : ((n % 256 : Nat) : Int) = (n : Int) % 256 := by omega
    rw [e1, e2, e3, e4]
  have hkA : Kept (fun _ => False) w (w.alloc (.cells #[.int .u8 ((n : Int) / 16777216), .int .u8 ((n : Int) / 65536 % 256), .int .u8 ((n : Int) / 256 % 256), .int .u8 ((n : Int) % 256)] 5)) := (Kept.refl _ w).alloc _
  have hnb : (w.alloc (.cells #[.int .u8 ((n : Int) / 16777216), .int .u8 ((n : Int) / 65536 % 256), .int .u8 ((n : Int) / 256 % 256), .int .u8 ((n : Int) % 256)] 5)).heap[w.heap.size]? = some (.cells #[.int .u8 ((n : Int) / 16777216), .int .u8 ((n : Int) / 65536 % 256), .int .u8 ((n : Int) / 256 % 256), .int .u8 ((n : Int) % 256)] 5 (0, 0)) := heap_alloc_new w _
  obtain ⟨v', w1, hr, hown', hkp, hblk⟩ := append_strong Tryz.prog _ 89 89 5 i0 _ 1 1 Tryz.underlying89 hi0 hz0 hzs hzb rfl (by decide) v l.length (Lib.byteCells l) (ownsRow_kept h hkA (fun _ _ h => h)) (.slice (some ⟨w.heap.size, 0, none⟩) 4 4) 4 (Lib.byteCells (four n))
    (Src.ofSlice _ Tryz.underlying89 ⟨w.heap.size, 0, none⟩ 4 4 _ rfl (fun j u hj => by rw [Addr.add_lit, Lib.cell_of_heap hnb, hcells] at *; simpa using hj) (bytes_oneCell _)) (by decide) (by unfold maxLen; omega) (by omega)
  have X : Hid (BytesAt w1 v' (l ++ four n)) := by
    show w1.ownsRow 0 5 1 v' (l ++ four n).length (Lib.byteCells (l ++ four n))
    rw [Go.Chorus.byteCells_append, List.length_append]; exact hown'
  have Y : Hid (Kept (fun k => v.ownBlock = some k) w w1) := (hkA.mono (fun _ _ h => h.elim)).trans hkp (fun _ _ h => h)
  have Z : Hid (∀ k, v'.ownBlock = some k → v.ownBlock = some k ∨ w.heap.size ≤ k) := fun k hk => by
    rcases hblk k hk with h | h
    · exact Or.inl h
    · simp at h; exact Or.inr (by omega)
  clear hown' hkp hblk hcells hkA hnb hi0 hz0 hzs hzb h
  go_enter Tryz.func72, Tryz.ntmps72
  go_wp2_with (at_builtin; refine Lib.wpList_append_run _ rfl _ _ _ _ rfl _ _ rfl rfl _ _ (hr _) ?_)
  go_ret
  exact ⟨_, rfl, X.out, Y.out, Z.out⟩

set_option maxHeartbeats 1000000 in
theorem checkSum_any (a : Option Addr) (cp : Nat) (l : List UInt8) (w : World) (h : l ≠ [] → ∃ g, a = some ⟨g, 0, none⟩ ∧ ∀ i b, l[i]? = some b → w.cell? ⟨g, i, none⟩ = some (.int .u8 (b.toNat : Int))) (hl : l.length ≤ 4294967296) :
    Calls Tryz.prog 73 #[.slice a l.length cp] w fun e' w' => e' = .returned (.int .u32 (sumFrom l 0 : Nat)) ∧ w' = w := by
  go_enter Tryz.func73, Tryz.ntmps73
  go_wp2
  go_loop [3, 8] (fun s i => ∃ k : Nat, k ≤ l.length ∧ i = .int .i64 k ∧ s = .int .u32 (sumFrom (l.take k) 0 : Nat)) (fun _ i => l.length - (intOf i).toNat)
  case atStart => exact ⟨0, Nat.zero_le _, rfl, rfl⟩
  case round =>
    obtain ⟨k, hk, rfl, rfl⟩ := hrel
    by_cases hlt : k < l.length
    · obtain ⟨b, hek⟩ : ∃ b, l[k]? = some b := ⟨_, List.getElem?_eq_getElem hlt⟩
      obtain ⟨g, rfl, hc⟩ := h (by intro h; rw [h] at hlt; simp at hlt)
      have c0 := hc k b hek
      have hs : Hid _ := sum_take l k b hek
      have hb := UInt8.toNat_lt b
      have hs0 := sumFrom_lt (l.take k) 0 (by decide)
      clear hek hc h
      go_wp2
      go_round
      case rel =>
        refine ⟨k + 1, by omega, by go_num, ?_⟩
        rw [hs.out]
        congr 1
        omega
      case measure => simp [intOf]; omega
    · go_wp2
      go_ret
      have hke : k = l.length := by omega
      subst hke
      exact ⟨ret_int (by rw [List.take_length]), rfl⟩

theorem BytesAt.cells {w : World} {v : Value} {l : List UInt8} (h : BytesAt w v l) : ∃ a cp, v = .slice a l.length cp ∧ (l ≠ [] → ∃ g, a = some ⟨g, 0, none⟩ ∧ ∀ i b, l[i]? = some b → w.cell? ⟨g, i, none⟩ = some (.int .u8 (b.toNat : Int))) := by
  rcases h.2 with ⟨rfl, h0⟩ | ⟨g, cap, cur, rfl, _, hg, _, _, _, htk⟩
  · exact ⟨none, 0, by rw [h0], fun hne => absurd (List.length_eq_zero_iff.1 h0) hne⟩
  · refine ⟨_, cap, rfl, fun _ => ⟨g, rfl, fun i b hb => ?_⟩⟩
    have hil : i < l.length := (List.getElem?_eq_some_iff.1 hb).1
    have : (Lib.byteCells l)[i]? = some (.int .u8 (b.toNat : Int)) := by simp [Lib.byteCells, hb]
    rw [Lib.cell_of_heap hg, ← Array.getElem?_toList, ← this, ← htk, List.getElem?_take, if_pos (by omega)]

set_option maxHeartbeats 1000000 in
theorem opName_any (kd p n c : Nat) (sv : Value) (tc tp : Nat) (ch : Int) (w : World) :
    Calls Tryz.prog 78 #[.agg #[.int .u8 kd, .int .u8 p, .int .u32 n, .int .u32 c, sv, .int .u32 tc, .int .u8 tp, .int .i32 ch]] w fun e' w' =>
      e' = .returned (.agg #[.int .u32 c, .int .u8 p]) ∧ Kept (fun _ => False) w w' := by
  go_enter Tryz.func78, Tryz.ntmps78
  go_wp2
  refine bodyPost_ret (v := .agg #[.int .u32 c, .int .u8 p]) (by simp [results, Tryz.results78, go_sem]) rfl ⟨rfl, ?_⟩
  exact ((Kept.refl _ w).alloc _).alloc _

set_option maxHeartbeats 1000000 in
theorem kill_none (es : List El) (c p : Nat) (b o : Nat) (rv : Value) (w : World) (h0 : w.cell? ⟨b, o, none⟩ = some rv) (hv : RowV w rv es) (hn : es.length ≤ 4294967296) (h1 : ¬ 0 ≤ findFrom c p es 0) :
    Calls Tryz.prog 79 #[.pointer (some ⟨b, o, none⟩), .agg #[.int .u32 c, .int .u8 p]] w fun e' w' => e' = .returned (.tuple #[]) ∧ Kept (fun _ => False) w w' := by
  have hbw := World.block_lt_of_cell? w _ h0
  go_enter Tryz.func79, Tryz.ntmps79
  go_wp2_with fail
  refine (find_any c p es b o rv _ (((Kept.refl (fun _ => False) w).alloc _).cell' h0 (fun h => h)) (hv.kept ((Kept.refl (fun _ => False) w).alloc _) (fun _ _ h => h)) hn).mono ?_
  rintro e2 w2 ⟨rfl, hk2⟩
  have hf : decide (0 ≤ findFrom c p es 0) = false := by rw [decide_eq_false_iff_not]; omega
  go_wp2
  go_end0
  exact ⟨rfl, ((Kept.refl _ w).alloc _).trans' hk2⟩

set_option maxHeartbeats 1000000 in
theorem kill_some (es : List El) (c p : Nat) (b o i g cap : Nat) (cur : Array Value) (w : World) (h0 : w.cell? ⟨b, o, none⟩ = some (.slice (some ⟨g, 0, none⟩) es.length cap)) (hn : es.length ≤ 4294967296) (h1 : findFrom c p es 0 = i)
    (hg : w.heap[g]? = some (.cells cur 102 (0, 0))) (hi : i < es.length) (hsz : es.length * 4 ≤ cur.size) (hv : RowV w (.slice (some ⟨g, 0, none⟩) es.length cap) es) :
    Calls Tryz.prog 79 #[.pointer (some ⟨b, o, none⟩), .agg #[.int .u32 c, .int .u8 p]] w fun e' w' => e' = .returned (.tuple #[]) ∧ w'.heap[g]? = some (.cells (cur.setIfInBounds (i * 4 + 3) (.bool true)) 102 (0, 0)) ∧ Kept (fun k => k = g) w w' := by
  have hbw := World.block_lt_of_cell? w _ h0
  have hgw := lt_of_heap hg
  have H1 : Hid (findFrom c p es 0 = i) := h1
  clear h1
  go_enter Tryz.func79, Tryz.ntmps79
  go_wp2_with fail
  refine (find_any c p es b o _ _ (((Kept.refl (fun _ => False) w).alloc _).cell' h0 (fun h => h)) (hv.kept ((Kept.refl (fun _ => False) w).alloc _) (fun _ _ h => h)) hn).mono ?_
  rintro e2 w2 ⟨rfl, hk2⟩
  have hf : decide (0 ≤ findFrom c p es 0) = true := by rw [decide_eq_true_iff, H1.out]; omega
  rw [hf, H1.out]
  have hkw : Kept (fun _ => False) w w2 := ((Kept.refl _ w).alloc _).trans' hk2
  have hg2 := hkw.heap hg (fun h => h)
  have c0 := hkw.cell' h0 (fun h => h)
  have hi2 : (i : Int) < (es.length : Int) := by omega
  obtain ⟨v3, d3⟩ : ∃ v3, w2.cell? ⟨g, i * 4 + 3, none⟩ = some v3 := by
    rw [Lib.cell_of_heap hg2]; exact ⟨_, Array.getElem?_eq_getElem (by omega)⟩
  have f3 : w2.frozen? ⟨g, i * 4 + 3, none⟩ = false := Lib.frozen_of_heap hg2 _
  have HG : Hid ((w2.setCell ⟨g, i * 4 + 3, none⟩ (.bool true)).heap[g]? = some (.cells (cur.setIfInBounds (i * 4 + 3) (.bool true)) 102 (0, 0))) := heap_set_same hg2 _ _
  clear hg2 hf hk2 hg hv
  go_wp2
  go_end0
  exact ⟨rfl, HG.out, Kept.setCell (S := fun k => k = g) (hkw.mono (fun _ _ h => h.elim)) (p := ⟨g, i * 4 + 3, none⟩) (fun _ => rfl) _⟩

end Go.Proofs.YtgfafbanahiigaaGreat
