import Derived.Shelf.Strings.Builder1
import Derived.Laws.Externs
import Derived.Test.YtgfafbanahiigaaGreatW1
import Derived.Test.YtgfafbanahiigaaGreatShelf
namespace Go.Proofs.YtgfafbanahiigaaGreat
open Go.RowKit Go.Chorus
theorem sizeBuilder : (Tryz.prog.info? 98).map (·.size) = some 2 := by kernel_rfl
set_option maxHeartbeats 1000000 in
set_option maxRecDepth 100000 in
theorem copyCheck_used (b : Nat) (w : World) (h0 : w.cell? ⟨b, 0, none⟩ = some (.pointer (some ⟨b, 0, none⟩))) :
  Calls Tryz.prog 56 #[.pointer (some ⟨b, 0, none⟩)] w fun e w' => e = .returned (.tuple #[]) ∧ w' = w := by
 obtain ⟨j, hj, _⟩ := Option.map_eq_some_iff.1 sizeBuilder
 go_enter Tryz.func56, Tryz.ntmps56
 go_wp2
 rw [Lib.run_neq_ptr_same w _ Tryz.underlying96 hj]
 go_wp2
 go_end0
 exact ⟨rfl, rfl⟩
set_option maxHeartbeats 1000000 in
set_option maxRecDepth 100000 in
theorem copyCheck_fresh (b : Nat) (w : World) (h0 : w.cell? ⟨b, 0, none⟩ = some (.pointer none)) (hsh : w.shape? b = some (98, 2)) (hfz : w.frozen? ⟨b, 0, none⟩ = false) :
  Calls Tryz.prog 56 #[.pointer (some ⟨b, 0, none⟩)] w fun e w' => e = .returned (.tuple #[]) ∧ w' = w.setCell ⟨b, 0, none⟩ (.pointer (some ⟨b, 0, none⟩)) := by
 obtain ⟨j, hj, hjs⟩ := Option.map_eq_some_iff.1 sizeBuilder
 go_enter Tryz.func56, Tryz.ntmps56
 go_wp2
 rw [Lib.run_to_unsafe w ⟨b, 0, none⟩ Tryz.underlying96 Tryz.underlying142 hj (by rw [hjs]; decide) hsh (Nat.zero_lt_succ 1)]
 simp only [Result.andThen]
 rw [Oper.upon_value]
 go_wp2
 rw [run_callFunc_extern Tryz.func74 (by kernel_rfl) (by kernel_rfl) (by kernel_rfl) (e := Extern.AbiNoEscape.same) (by kernel_rfl)]
 rw [Lib.run_noEscape]
 simp only [Result.andThen]
 rw [Oper.upon_value]
 go_wp2
 rw [Lib.run_from_unsafe w ⟨b, 0, none⟩ Tryz.underlying142 Tryz.underlying96 hj hsh (by kernel_rfl)]
 simp only [Result.andThen]
 rw [Oper.upon_value]
 go_wp2
 go_end0
 exact ⟨rfl, rfl⟩
theorem copyCheck_any (B b : Nat) (bs : List Value) (w : World) (h : Lib.IsBuilder 98 5 B b bs w) :
  Calls Tryz.prog 56 #[.pointer (some ⟨b, 0, none⟩)] w fun e w' => e = .returned (.tuple #[]) ∧ (Lib.BuilderAt 98 5 B b (.pointer (some ⟨b, 0, none⟩)) bs w' ∧ Below B w w') := by
 rcases h with h | h
 ·refine (copyCheck_fresh b w h.cell0 h.shape h.frozen0).mono ?_
  rintro e w' ⟨rfl, rfl⟩
  exact ⟨rfl, h.used _, (Below.refl B w).setCell (p := ⟨b, 0, none⟩) h.1 _⟩
 ·refine (copyCheck_used b w h.cell0).mono ?_
  rintro e w' ⟨rfl, rfl⟩
  exact ⟨rfl, h, Below.refl B _⟩
set_option maxHeartbeats 1000000 in
set_option maxRecDepth 100000 in
theorem writeRune_any (B b : Nat) (bs : List Value) (r : Int) (hr0 : -2147483648 ≤ r) (hr1 : r ≤ 2147483647) (w : World) (h : Lib.IsBuilder 98 5 B b bs w) (hlen : bs.length + 4 ≤ 140737488355328) (hBw : B ≤ w.heap.size) :
  Calls Tryz.prog 40 #[.pointer (some ⟨b, 0, none⟩), .int .i32 r] w fun e w' => e = .returned (.tuple #[.int .i64 (Lib.runeCells r).length, .nilIface]) ∧ (Lib.BuilderAt 98 5 B b (.pointer (some ⟨b, 0, none⟩)) (bs ++ Lib.runeCells r) w' ∧ Below B w w') := by
 have hk4 := Lib.runeCells_le r
 go_enter Tryz.func40, Tryz.ntmps40
 go_wp2_with fail
 refine (copyCheck_any B b bs _ h).mono ?_
 rintro e w1 ⟨rfl, h1, hb1⟩
 obtain ⟨hB, v, hbk, hown, hne⟩ := h1
 obtain ⟨ao, cap, rfl⟩ : ∃ ao cap, v = .slice ao bs.length cap := by
  rcases hown.2 with ⟨hv, h0⟩ | ⟨g, cap, cur, hv, _⟩
  ·exact ⟨none, 0, by rw [hv, h0]⟩
  ·exact ⟨_, _, hv⟩
 have c0 : w1.cell? ⟨b, 0, none⟩ = some (.pointer (some ⟨b, 0, none⟩)) := by rw [Lib.cell_of_heap hbk]; rfl
 have c1 : w1.cell? ⟨b, 1, none⟩ = some (.slice ao bs.length cap) := by rw [Lib.cell_of_heap hbk]; rfl
 go_wp2_with fail
 refine (Tryz.utf8_AppendRune_plain B _ bs.length bs r hr0 hr1 _ hown hlen (by have := hb1.size; omega)).mono ?_
 rintro e w2 ⟨v', rfl, hown', o, hgrow⟩
 have hlt : b < w1.heap.size := lt_of_heap hbk
 have hb2 : w2.heap[b]? = some (.cells #[.pointer (some ⟨b, 0, none⟩), .slice ao bs.length cap] 98 (0, 0)) := by
  rw [hgrow.block b (by simp; omega) (fun e => hne e.symm), Below.heap_alloc w1 _ b hlt]
  exact hbk
 have d0 : w2.cell? ⟨b, 0, none⟩ = some (.pointer (some ⟨b, 0, none⟩)) := by rw [Lib.cell_of_heap hb2]; rfl
 have d1 : w2.cell? ⟨b, 1, none⟩ = some (.slice ao bs.length cap) := by rw [Lib.cell_of_heap hb2]; rfl
 have f1 : w2.frozen? ⟨b, 1, none⟩ = false := Lib.frozen_of_heap hb2 1
 obtain ⟨g, cap', rfl⟩ : ∃ g cap', v' = .slice (some ⟨g, 0, none⟩) (bs.length + (Lib.runeCells r).length) cap' := by
  rcases hown'.2 with ⟨_, h0⟩ | ⟨g, cap', cur, hv, _⟩
  ·omega
  ·exact ⟨g, cap', hv⟩
 have hst : Hid (Lib.BuilderAt 98 5 B b (.pointer (some ⟨b, 0, none⟩)) (bs ++ Lib.runeCells r) (w2.setCell ⟨b, 1, none⟩ (.slice (some ⟨g, 0, none⟩) (bs.length + (Lib.runeCells r).length) cap'))) :=
  Lib.BuilderAt.put hB hb2 (by rw [List.length_append]; exact hown') (by decide)
 have hbl : Hid (Below B w w2) := hb1.trans (Below.grown ((Below.refl _ _).alloc (by have := hb1.size; omega) _) hgrow (by simp; have := hb1.size; omega) (fun k hk => (hown.lt k hk).1))
 clear hown' hgrow hown hb1 hbk hb2 h
 go_wp2
 go_ret2
 exact ⟨ret2_int (by omega), hst.out, hbl.out.setCell hB _⟩
set_option maxHeartbeats 1000000 in
theorem rowText_any (es : List El) (b o : Nat) (v : Value) (w : World) (h0 : w.cell? ⟨b, o, none⟩ = some v) (hv : RowV w v es) (hn : es.length ≤ 4294967296) (hfit : ∀ e ∈ es, e.Fits) :
  Calls Tryz.prog 26 #[.pointer (some ⟨b, o, none⟩)] w fun e' w' =>
   e' = .returned (.string ⟨(textBytes es).toArray⟩) ∧ Kept (fun _ => False) w w' := by
 have hb : b < w.heap.size := World.block_lt_of_cell? w _ h0
 obtain ⟨a, cp, rfl, he⟩ := hv
 go_enter Tryz.func26, Tryz.ntmps26
 go_wp2
 go_loopw [11] (fun i wr => ∃ k : Nat, k ≤ es.length ∧ i = .int .i64 k ∧ Lib.IsBuilder 98 5 w.heap.size w.heap.size (Lib.byteCells (textBytes (es.take k))) wr ∧ Kept (fun _ => False) w wr) (fun i _ => es.length - (intOf i).toNat)
 case atStart =>
  refine ⟨0, Nat.zero_le _, rfl, Or.inl ⟨Nat.le_refl _, .slice none 0 0, heap_alloc_new w _, World.ownsRow_nil _ _ _ _, by simp [Value.ownBlock]⟩, (Kept.refl _ _).alloc _⟩
 case round =>
  obtain ⟨k, hk, rfl, hB, hkp⟩ := hrel
  have hs := hkp.size
  by_cases hlt : k < es.length
  ·obtain ⟨e, hek⟩ : ∃ e, es[k]? = some e := ⟨_, List.getElem?_eq_getElem hlt⟩
   obtain ⟨g, rfl, heg⟩ := he (by intro h; rw [h] at hlt; simp at hlt)
   obtain ⟨c0, c1, c2, c3⟩ := (heg.kept hkp (fun h => h)) k e hek
   have hres : Hid _ := textBytes_take es k e hek
   have hf := hfit e (List.mem_of_getElem? hek)
   clear hek
   cases hdead : e.dead
   ·rw [hdead] at c3
    rw [hdead] at hres
    clear hdead
    have hl := textBytes_len (es.take k)
    have hl2 : (es.take k).length ≤ es.length := List.length_take_le' k es
    go_wp2_with fail
    refine (writeRune_any w.heap.size w.heap.size _ e.char hf.2.2.1 hf.2.2.2 _ (isBuilder_kept hB ((Kept.refl (fun _ => False) wr).alloc _) (fun _ _ _ h => h)) ?_ ?_).mono ?_
    ·rw [Go.Chorus.byteCells_length]; omega
    ·simp; omega
    rintro e' w' ⟨rfl, hB', hbl⟩
    have hkw : Kept (fun _ => False) w w' := (hkp.alloc _).trans (Kept.of_below hbl) (fun i hi h => by omega)
    go_wp2
    go_roundw
    case rel => exact ⟨k + 1, by omega, by go_num, by rw [hres.out, Go.Chorus.byteCells_append]; simp [Lib.byteCells_encodeRune]; exact Or.inr hB', hkw⟩
    case measure => simp [intOf]; omega
   ·rw [hdead] at c3
    rw [hdead] at hres
    clear hdead
    go_wp2
    go_roundw
    case rel => exact ⟨k + 1, by omega, by go_num, by rw [hres.out]; simp; exact isBuilder_kept hB ((Kept.refl (fun _ => False) wr).alloc _) (fun _ _ _ h => h), hkp.alloc _⟩
    case measure => simp [intOf]; omega
  ·go_wp2_with fail
   have hke : k = es.length := by omega
   subst hke
   rw [List.take_length] at hB
   refine (Tryz.Builder_String_any w.heap.size w.heap.size (textBytes es) wr hB hs).mono ?_
   rintro e' w' ⟨rfl, hbl⟩
   go_wp2
   go_ret
   exact ⟨rfl, hkp.trans (Kept.of_below hbl) (fun i hi h => by omega)⟩
end Go.Proofs.YtgfafbanahiigaaGreat
