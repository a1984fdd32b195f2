import Derived.Test.YtgfafbanahiigaaV15
import Derived.Laws.Cover4
set_option linter.unusedVariables false
set_option linter.unusedSimpArgs false
namespace Go.Proofs.Ytgfafbanahiigaa
open Go.RowKit Go.Chorus

theorem new_pm (peer peers : Nat) (w : World) (h1 : 1 ≤ peers) (h2 : peers ≤ 8) (h4 : peer < peers) :
    Calls Try.prog 12 #[.int .i64 peer, .int .i64 peers] w fun e' w' => ∃ bp F, e' = .returned (.tuple #[.pointer (some ⟨bp, 0, none⟩), .int .i64 0]) ∧
      PM w' bp ⟨peer, 0, List.replicate peers 0, [], [], List.replicate peers []⟩ F ∧ (∀ k, F k → w.heap.size ≤ k) ∧ Kept (fun _ => False) w w' := by
  refine (new_any peer peers w h1 h2 h4).mono ?_
  rintro e' w' ⟨bp, bk, rfl, hP, hb1, hb2, hb3, hk⟩
  refine ⟨bp, Own bp bk (.slice none 0 0) (.slice none 0 0) [], rfl, ⟨bk, _, _, [], hP, ⟨World.ownsRow_nil _ _ _ _, fun m hm => by cases hm⟩, rfl, rfl⟩, ?_, hk⟩
  rintro k ((rfl | h | h) | h | ⟨m, hm, _⟩ | h)
  · exact hb1
  · exact hb2 k h
  · simp [Value.ownBlock] at h
  · simp [Value.ownBlock] at h
  · cases hm
  · exact absurd h (hb3 k)

theorem kept_new {w0 w w' : World} {F : Nat → Prop} (h : Kept (fun _ => False) w0 w) (k : Kept F w w') (hF : ∀ j, F j → w0.heap.size ≤ j) : Kept (fun _ => False) w0 w' :=
  h.trans k (fun i hi hs => by have := hF i hs; omega)

theorem own_new {w0 w : World} {F F' : Nat → Prop} (h : w0.heap.size ≤ w.heap.size) (hF : ∀ j, F j → w0.heap.size ≤ j) (hn : ∀ j, F' j → F j ∨ w.heap.size ≤ j) : ∀ j, F' j → w0.heap.size ≤ j := fun j hj => by
  rcases hn j hj with h1 | h1
  · exact hF j h1
  · omega

-- [choruskeep alone
def strA : ByteArray := ⟨(packetOf 1 0 1 1 [0, 0, 0] 0 0 97).toArray⟩
def strB : ByteArray := ⟨(packetOf 1 0 2 2 [1, 0, 0] 1 0 98).toArray⟩
def strC : ByteArray := ⟨(packetOf 2 0 3 3 [2, 0, 0] 1 0 0).toArray⟩
theorem sizeA : strA.size = 35 := by decide +kernel
theorem sizeB_ : strB.size = 35 := by decide +kernel
theorem sizeC : strC.size = 31 := by decide +kernel
theorem indexA (w : World) : (Instr.index 9 (.string strA) (.int .i64 0)).run Try.prog w = .ok (.int .u8 1) w := by kernel_rfl
theorem indexB (w : World) : (Instr.index 9 (.string strB) (.int .i64 5)).run Try.prog w = .ok (.int .u8 2) w := by kernel_rfl
theorem indexC (w : World) : (Instr.index 9 (.string strC) (.int .i64 0)).run Try.prog w = .ok (.int .u8 2) w := by kernel_rfl

def st0 : Pr := ⟨0, 0, [0, 0, 0], [], [], [[], [], []]⟩
def op0 : Ope := st0.makes true (0, 0) 97
def st1 : Pr := ⟨0, 1, [1, 0, 0], [⟨1, 0, 97, false⟩], [], [[op0], [], []]⟩
def op1 : Ope := st1.makes true (1, 0) 98
def st2 : Pr := ⟨0, 2, [2, 0, 0], [⟨1, 0, 97, false⟩, ⟨2, 0, 98, false⟩], [], [[op0, op1], [], []]⟩
def op2 : Ope := st2.makes false (1, 0) 0
def st3 : Pr := ⟨0, 3, [3, 0, 0], [⟨1, 0, 97, true⟩, ⟨2, 0, 98, false⟩], [], [[op0, op1, op2], [], []]⟩

theorem fits_of (c p : Nat) (ch : Int) (d : Bool) (h : c < 4294967296 ∧ p < 256 ∧ -2147483648 ≤ ch ∧ ch ≤ 2147483647) : (⟨c, p, ch, d⟩ : El).Fits := h

theorem ro0 : RightOp 3 (st0.makes true (0, 0) 97) := ⟨by decide, by decide, by decide, by decide, rfl, by decide, rfl, by decide, fun _ => ⟨rfl, rfl⟩, by decide⟩
theorem ro1 : RightOp 3 (st1.makes true (1, 0) 98) := ⟨by decide, by decide, by decide, by decide, rfl, by decide, rfl, by decide, fun h => (by cases h), by decide⟩
theorem ro2 : RightOp 3 (st2.makes false (1, 0) 0) := ⟨by decide, by decide, by decide, by decide, rfl, by decide, rfl, by decide, fun h => (by cases h), by decide⟩

theorem st_fit (s : Pr) (h1 : s.known.length = 3) (h2 : s.me = 0) (h3 : ∀ n ∈ s.known, n < 4294967296) (h4 : s.clock < 4294967296) (h5 : s.held = []) (h6 : ∀ e ∈ s.row, e.Fits) (h7 : ∀ l ∈ s.log, ∀ o ∈ l, RightOp 3 o) : Fit 3 s :=
  ⟨h1, by decide, by decide, by rw [h2]; decide, h3, h4, by rw [h5]; (intro o ho; cases ho), by rw [h5]; decide, h6, h7⟩

theorem st0_fit : Fit 3 st0 := st_fit st0 rfl rfl (by decide) (by decide) rfl (fun e he => by cases he) (fun l hl o ho => by
  simp only [st0, List.mem_cons, List.not_mem_nil, or_false] at hl; rcases hl with rfl | rfl | rfl <;> cases ho)
theorem st1_fit : Fit 3 st1 := st_fit st1 rfl rfl (by decide) (by decide) rfl (fun e he => by
  simp only [st1, List.mem_cons, List.not_mem_nil, or_false] at he; subst he; exact fits_of _ _ _ _ (by decide)) (fun l hl o ho => by
  simp only [st1, List.mem_cons, List.not_mem_nil, or_false] at hl; rcases hl with rfl | rfl | rfl
  · rw [List.mem_singleton.1 ho]; exact ro0
  · cases ho
  · cases ho)
theorem st2_fit : Fit 3 st2 := st_fit st2 rfl rfl (by decide) (by decide) rfl (fun e he => by
  simp only [st2, List.mem_cons, List.not_mem_nil, or_false] at he; rcases he with rfl | rfl <;> exact fits_of _ _ _ _ (by decide)) (fun l hl o ho => by
  simp only [st2, List.mem_cons, List.not_mem_nil, or_false] at hl; rcases hl with rfl | rfl | rfl
  · simp only [List.mem_cons, List.not_mem_nil, or_false] at ho
    rcases ho with rfl | rfl
    · exact ro0
    · exact ro1
  · cases ho
  · cases ho)
theorem st3_fit : Fit 3 st3 := st_fit st3 rfl rfl (by decide) (by decide) rfl (fun e he => by
  simp only [st3, List.mem_cons, List.not_mem_nil, or_false] at he; rcases he with rfl | rfl <;> exact fits_of _ _ _ _ (by decide)) (fun l hl o ho => by
  simp only [st3, List.mem_cons, List.not_mem_nil, or_false] at hl; rcases hl with rfl | rfl | rfl
  · simp only [List.mem_cons, List.not_mem_nil, or_false] at ho
    rcases ho with rfl | rfl | rfl
    · exact ro0
    · exact ro1
    · exact ro2
  · cases ho
  · cases ho)

theorem go0 : (st0.deliverF (st0.makes true (0, 0) 97)).1 = st1 := by rfl
theorem go1 : (st1.deliverF (st1.makes true (1, 0) 98)).1 = st2 := by rfl
theorem go2 : (st2.deliverF (st2.makes false (1, 0) 0)).1 = st3 := by rfl

set_option maxHeartbeats 2000000 in
set_option maxRecDepth 100000 in
theorem begun_any (w : World) : Calls Try.prog 11 #[] w fun e' w' => e' = .returned (.bool true) ∧ Kept (fun _ => False) w w' := by
  have hA := indexA
  have hB := indexB
  have hC := indexC
  have sA := sizeA
  have sB := sizeB_
  have sC := sizeC
  go_enter Try.func11, Try.ntmps11
  go_wp2_with fail
  refine (new_pm 0 3 w (by decide) (by decide) (by decide)).mono ?_
  rintro e1 w1 ⟨bp, F1, rfl, hP1, hF1, hk1⟩
  have hi1 := insert_ok st0 3 bp F1 w1 hP1 st0_fit (by decide) 0 97 (by decide) 0 0 rfl (by decide) (by decide) (by decide) ro0
  rw [go0] at hi1
  go_wp2_with fail
  refine hi1.mono ?_
  rintro e2 w2 ⟨rfl, F2, hP2, hK2, hN2⟩
  rw [show (⟨(st0.makes true (0, 0) 97).packet.toArray⟩ : ByteArray) = strA from rfl]
  have hk2 := kept_new hk1 hK2 hF1
  have hF2 := own_new hk1.size hF1 hN2
  have hi2 := insert_ok st1 3 bp F2 w2 hP2 st1_fit (by decide) 1 98 (by decide) 1 0 rfl (by decide) (by decide) (by decide) ro1
  rw [go1] at hi2
  clear hP1 hi1 hK2 hN2 hP2
  go_wp2_with fail
  refine hi2.mono ?_
  rintro e3 w3 ⟨rfl, F3, hP3, hK3, hN3⟩
  rw [show (⟨(st1.makes true (1, 0) 98).packet.toArray⟩ : ByteArray) = strB from rfl]
  have hk3 := kept_new hk2 hK3 hF2
  have hF3 := own_new hk2.size hF2 hN3
  clear hi2 hK3 hN3
  go_wp2_with fail
  refine (text_pm st2 bp F3 w3 hP3 (by decide) st2_fit.row).mono ?_
  rintro e4 w4 ⟨rfl, hk4⟩
  rw [show (textBytes st2.row).toArray = #[97, 98] from by decide +kernel]
  have hP4 := hP3.quiet hk4
  have hk04 := hk3.trans' hk4
  have hi3 := delete_ok st2 3 bp F3 w4 hP4 st2_fit (by decide) 0 ⟨1, 0, 97, false⟩ rfl (by decide) (by decide) ro2
  rw [show (st2.deliverF (st2.makes false ((⟨1, 0, 97, false⟩ : El).clock, (⟨1, 0, 97, false⟩ : El).peer) 0)).1 = st3 from go2] at hi3
  clear hP3 hk3 hk4 hP4
  go_wp2_with fail
  refine hi3.mono ?_
  rintro e5 w5 ⟨rfl, F5, hP5, hK5, hN5⟩
  rw [show (⟨(st2.makes false ((⟨1, 0, 97, false⟩ : El).clock, (⟨1, 0, 97, false⟩ : El).peer) 0).packet.toArray⟩ : ByteArray) = strC from rfl]
  have hk5 := kept_new hk04 hK5 hF3
  clear hi3 hK5 hN5 hk04
  go_wp2_with fail
  refine (known_pm st3 3 bp F5 w5 hP5 st3_fit).mono ?_
  rintro e6 w6 ⟨rfl, hc6, hk6⟩
  rw [show st3.known.length = 3 from rfl]
  have g0 : w6.cell? ⟨w5.heap.size, 0, none⟩ = some (.int .i64 3) := by rw [Lib.cell_of_heap hc6]; rfl
  have g1 : w6.cell? ⟨w5.heap.size, 1, none⟩ = some (.int .i64 0) := by rw [Lib.cell_of_heap hc6]; rfl
  have hP6 := hP5.quiet hk6
  have hk06 := hk5.trans' hk6
  have hz6 := lt_of_heap hc6
  clear hP5 hk5 hk6 hc6
  go_wp2_with fail
  refine (text_pm st3 bp F5 w6 hP6 (by decide) st3_fit.row).mono ?_
  rintro e7 w7 ⟨rfl, hk7⟩
  rw [show (textBytes st3.row).toArray = #[98] from by decide +kernel]
  have g0' := hk7.cell' g0 (fun h => h)
  have g1' := hk7.cell' g1 (fun h => h)
  have hk07 := hk06.trans' hk7
  clear hP6 hk06 hk7 g0 g1
  go_wp2
  go_ret
  exact ⟨rfl, hk07⟩

-- choruskeep alone]
end Go.Proofs.Ytgfafbanahiigaa
