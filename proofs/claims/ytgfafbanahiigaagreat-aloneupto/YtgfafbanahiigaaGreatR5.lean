import Derived.Test.YtgfafbanahiigaaGreatRA
import Derived.Laws.Runes
set_option linter.unusedVariables false
set_option linter.unusedSimpArgs false
namespace Go.Proofs.YtgfafbanahiigaaGreat
open Go.RowKit Go.Chorus
theorem encodeRune_len (c : Int) : (Lib.encodeRune c).length ≤ 4 := by
 have := Lib.runeCells_le c
 rw [Lib.runeCells_length] at this
 omega
theorem placesText_len (es : List El) (l : List Nat) : (placesText es l).length ≤ 4 * l.length := by
 induction l with
 | nil => simp [placesText]
 | cons i r ih =>
  have : (placesText es (i :: r)).length = (match es[i]? with | some e => Lib.encodeRune e.char | none => []).length + (placesText es r).length := by unfold placesText; rw [List.flatMap_cons, List.length_append]; rfl
  rw [this]
  have h2 : (match es[i]? with | some e => Lib.encodeRune e.char | none => ([] : List UInt8)).length ≤ 4 := by
   split
   ·exact encodeRune_len _
   ·simp
  simp; omega
theorem str_add (w : World) (a b : List UInt8) (B : ByteArray) (hB : B = ⟨b.toArray⟩) (h : a.length + b.length ≤ 9223372036854775807) : (Op.stringOp .add ⟨a.toArray⟩ B).run Tryz.prog w = .ok (.string ⟨(a ++ b).toArray⟩) w := by
 subst hB
 rw [run_string_add_sum]
 ·rw [ByteArray.mk_append_mk]
 ·exact h
set_option maxHeartbeats 1000000 in
set_option maxRecDepth 100000 in
theorem rtext_any {w : World} {F : Nat → Prop} {bp : Nat} {s : RSt} {rv : Value} {bo : Nat} {vs : List Value} {hv : Value} (h : RefAt w F bp s rv bo vs hv) (hn : s.row.length ≤ 4294967296) (hok : ∀ e ∈ s.row, okRune e.char) :
  Calls Tryz.prog 14 #[.pointer (some ⟨bp, 0, none⟩)] w fun e' w' => e' = .returned (.string ⟨(textBytes s.row).toArray⟩) ∧ Kept (fun _ => False) w w' := by
 obtain ⟨c0, c1, c2, c3, c4, c5⟩ := h.cells
 obtain ⟨a, cp, rfl, hel⟩ := relems_of_own h.row
 have hlv := rlive_any h hn
 clear c0 c1 c2 c4 c5
 go_enter Tryz.func14, Tryz.ntmps14
 go_wp2_with fail
 refine hlv.mono ?_
 rintro e1 w1 ⟨lv, rfl, hl, hk1, hb1⟩
 obtain ⟨la, lc, rfl, hlc⟩ := hl.cells
 have hl0 : (liveIdx s.row 0).length ≤ s.row.length := liveIdx_length _ _
 obtain ⟨L, hL⟩ : ∃ L, liveIdx s.row 0 = L := ⟨_, rfl⟩
 have hmem : ∀ i ∈ L, i < s.row.length := fun i hi => by rw [← hL] at hi; have := liveIdx_mem s.row 0 i hi; omega
 have htx : Hid (placesText s.row L = textBytes s.row) := by rw [← hL]; exact liveIdx_text [] s.row
 rw [hL] at hl hlc hl0
 rw [hL]
 clear hL hlv hb1 h hl
 go_wp2
 go_loopw [4, 5] (fun t i wr => ∃ k : Nat, k ≤ L.length ∧ i = .int .i64 k ∧ t = .string ⟨(placesText s.row (L.take k)).toArray⟩ ∧ Kept (fun _ => False) w1 wr) (fun _ i _ => L.length - (intOf i).toNat)
 case atStart => exact ⟨0, Nat.zero_le _, rfl, rfl, Kept.refl _ _⟩
 case round =>
  obtain ⟨k, hk, rfl, rfl, hkp⟩ := hrel
  have d3 := (hk1.trans' hkp).cell' c3 (fun h => h)
  have hbw : bp < wr.heap.size := World.block_lt_of_cell? wr _ d3
  by_cases hlt : k < L.length
  ·obtain ⟨i, hik⟩ : ∃ i, L[k]? = some i := ⟨_, List.getElem?_eq_getElem hlt⟩
   have hi := hmem i (List.mem_of_getElem? hik)
   obtain ⟨lg, rfl, g0⟩ := hlc k i hik
   have g1 := hkp.cell' g0 (fun h => h)
   have hlg : lg < wr.heap.size := World.block_lt_of_cell? wr _ g1
   obtain ⟨e, hek⟩ : ∃ e, s.row[i]? = some e := ⟨_, List.getElem?_eq_getElem hi⟩
   obtain ⟨g, rfl, heg⟩ := hel (by intro h; rw [h] at hi; simp at hi)
   obtain ⟨e0, e1, e2, e3⟩ := (heg.kept (hk1.trans' hkp) (fun h => h)) i e hek
   have hgw : g < wr.heap.size := World.block_lt_of_cell? wr _ e0
   have hoke := hok e (List.mem_of_getElem? hek)
   have hpt : Hid _ := placesText_take s.row L k i e hik hek
   obtain ⟨c, hc⟩ : ∃ c : Nat, e.char = c := ⟨e.char.toNat, by unfold okRune at hoke; omega⟩
   have hcv : c < 55296 ∨ (57344 ≤ c ∧ c ≤ 1114111) := by unfold okRune at hoke; omega
   have henc : Utf8.encode (c : Int) = ⟨(Lib.encodeRune c).toArray⟩ := encode_eq c hcv
   have hc1 : c ≤ 1114111 := by omega
   rw [hc] at e2
   have HC : Hid (e.char = c) := hc
   have HE : Hid (Utf8.encode (c : Int) = ⟨(Lib.encodeRune c).toArray⟩) := henc
   have hpl : (placesText s.row (L.take k)).length ≤ 4 * k := Nat.le_trans (placesText_len _ _) (by simp; omega)
   have hadd : ∀ w : World, (Op.stringOp .add ⟨(placesText s.row (L.take k)).toArray⟩ (Utf8.encode (c : Int))).run Tryz.prog w = .ok (.string ⟨(placesText s.row (L.take k) ++ Lib.encodeRune c).toArray⟩) w := fun w => str_add w _ _ _ henc (by
    have := encodeRune_len c
    omega)
   clear hik hek hel heg hlc hmem hok hoke hcv henc hc g0 c3
   go_wp2
   go_quiet (fail)
   go_wp2
   go_roundw
   case rel =>
    refine ⟨k + 1, by omega, by go_num, ?_, hkp.drewN _⟩
    rw [hpt.out, HC.out]
   case measure => simp [intOf]; omega
  ·clear hlc hel hmem hok
   go_wp2
   go_ret
   have : k = L.length := by omega
   subst this
   rw [List.take_length]
   exact ⟨ret_str (by rw [htx.out]), hk1.trans' hkp⟩
end Go.Proofs.YtgfafbanahiigaaGreat
