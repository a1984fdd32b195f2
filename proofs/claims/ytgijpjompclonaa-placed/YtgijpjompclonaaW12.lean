import Derived.Test.YtgijpjompclonaaM1
import Derived.Laws.Cover4
set_option linter.unusedVariables false
set_option linter.unusedSimpArgs false
namespace Go.Proofs.Ytgijpjompclonaa
open Go.RowKit Go.Chorus

def strA : ByteArray := ⟨(packetOf 1 0 1 1 [0, 0, 0] 0 0 97).toArray⟩
def strB : ByteArray := ⟨(packetOf 1 0 2 2 [1, 0, 0] 1 0 98).toArray⟩
def strC : ByteArray := ⟨(packetOf 2 0 3 3 [2, 0, 0] 1 0 0).toArray⟩
theorem sizeA : strA.size = 35 := by decide +kernel
theorem sizeB : strB.size = 35 := by decide +kernel
theorem sizeC : strC.size = 31 := by decide +kernel
theorem indexA (w : World) : (Instr.index 9 (.string strA) (.int .i64 0)).run Try.prog w = .ok (.int .u8 1) w := by kernel_rfl
theorem indexB (w : World) : (Instr.index 9 (.string strB) (.int .i64 5)).run Try.prog w = .ok (.int .u8 2) w := by kernel_rfl
theorem indexC (w : World) : (Instr.index 9 (.string strC) (.int .i64 0)).run Try.prog w = .ok (.int .u8 2) w := by kernel_rfl

theorem kept_foot {w0 w w' : World} {bp bk : Nat} {rv : Value} (h : Kept (fun _ => False) w0 w) (k : Kept (Foot bp bk rv) w w') (h1 : w0.heap.size ≤ bp) (h2 : w0.heap.size ≤ bk) (h3 : ∀ j, rv.ownBlock = some j → w0.heap.size ≤ j) : Kept (fun _ => False) w0 w' :=
  h.trans k (fun i hi hs => by
    rcases hs with rfl | rfl | hs
    · omega
    · omega
    · have := h3 i hs; omega)

theorem PeerAt.quiet {w w' : World} {bp me clock : Nat} {known : List Nat} {es : List El} {bk : Nat} {rv : Value} (h : PeerAt w bp me clock known es bk rv) (k : Kept (fun _ => False) w w') : PeerAt w' bp me clock known es bk rv :=
  ⟨k.heap h.block (fun h => h), k.heap h.knownB (fun h => h), ownsRow_kept h.row k (fun _ _ h => h)⟩

set_option maxHeartbeats 2000000 in
set_option maxRecDepth 100000 in
theorem begun_any (w : World) : Calls Try.prog 9 #[] w fun e' w' => e' = .returned (.bool true) ∧ Kept (fun _ => False) w w' := by
  have hA := indexA
  have hB := indexB
  have hC := indexC
  have sA := sizeA
  have sB := sizeB
  have sC := sizeC
  go_enter Try.func9, Try.ntmps9
  go_wp2_with fail
  refine (new_any 0 3 w (by decide) (by decide) (by decide)).mono ?_
  rintro e1 w1 ⟨bp, bk, rfl, hP, hb1, hb2, hk1⟩
  rw [show (List.replicate 3 0 : List Nat) = [0, 0, 0] from rfl] at hP
  go_wp2_with fail
  refine (insert_ok bp 0 0 [0, 0, 0] [] bk _ w1 hP (by decide) (by decide) (by decide) 0 97 (by decide) 0 0 rfl (by decide) 0 rfl (by decide) (by decide) (by decide) (by decide) (by decide) (by decide) (by decide) (by decide)).mono ?_
  rintro e2 w2 ⟨rfl, rv2, hP2, hk2, hn2⟩
  rw [show (⟨(packetOf 1 0 (0 + 1) (0 + 1) [0, 0, 0] 0 0 97).toArray⟩ : ByteArray) = strA from rfl]
  have hk02 := kept_foot hk1 hk2 hb1 hb2 (fun j hj => by simp [Value.ownBlock] at hj)
  have hr2 : ∀ j, rv2.ownBlock = some j → w.heap.size ≤ j := fun j hj => by
    rcases hn2 j hj with h | h
    · simp [Value.ownBlock] at h
    · exact Nat.le_trans hk1.size h
  have hP2' : PeerAt w2 bp 0 1 [1, 0, 0] [⟨1, 0, 97, false⟩] bk rv2 := hP2
  clear hP hP2 hn2 hk1 hk2
  go_wp2_with fail
  refine (insert_ok bp 0 1 [1, 0, 0] [⟨1, 0, 97, false⟩] bk _ w2 hP2' (by decide) (by decide) (by decide) 1 98 (by decide) 1 0 rfl (by decide) 1 rfl (by decide) (by decide) (by decide) (by decide) (by decide) (by decide) (by decide) (by decide)).mono ?_
  rintro e3 w3 ⟨rfl, rv3, hP3, hk3, hn3⟩
  rw [show (⟨(packetOf 1 0 (1 + 1) (1 + 1) [1, 0, 0] 1 0 98).toArray⟩ : ByteArray) = strB from rfl]
  have hk03 := kept_foot hk02 hk3 hb1 hb2 hr2
  have hr3 : ∀ j, rv3.ownBlock = some j → w.heap.size ≤ j := fun j hj => by
    rcases hn3 j hj with h | h
    · exact hr2 j h
    · exact Nat.le_trans hk02.size h
  have hP3' : PeerAt w3 bp 0 2 [2, 0, 0] [⟨1, 0, 97, false⟩, ⟨2, 0, 98, false⟩] bk rv3 := hP3
  clear hP2' hP3 hn3 hk02 hk3 hr2
  go_wp2_with fail
  refine (text_any bp 0 2 [2, 0, 0] _ bk rv3 w3 hP3' (by decide) (fun e he => by
    simp only [List.mem_cons, List.not_mem_nil, or_false] at he
    rcases he with rfl | rfl <;> exact ⟨by decide, by decide, by decide, by decide⟩)).mono ?_
  rintro e4 w4 ⟨rfl, hk4⟩
  rw [show (textBytes [⟨1, 0, 97, false⟩, ⟨2, 0, 98, false⟩]).toArray = #[97, 98] from by decide +kernel]
  have hP4 := hP3'.quiet hk4
  have hk04 := hk03.trans' hk4
  clear hP3' hk03 hk4
  go_wp2_with fail
  refine (delete_ok bp 0 2 [2, 0, 0] [⟨1, 0, 97, false⟩, ⟨2, 0, 98, false⟩] bk rv3 w4 hP4 (by decide) (by decide) (by decide) 0 ⟨1, 0, 97, false⟩ rfl 2 rfl (by decide) (by decide) (by decide) (by decide) (by decide)).mono ?_
  rintro e5 w5 ⟨rfl, rv5, hP5, hk5, hn5⟩
  rw [show (⟨(packetOf 2 0 (2 + 1) (2 + 1) [2, 0, 0] (⟨1, 0, 97, false⟩ : El).clock (⟨1, 0, 97, false⟩ : El).peer 0).toArray⟩ : ByteArray) = strC from rfl]
  have hk05 := kept_foot hk04 hk5 hb1 hb2 hr3
  have hP5' : PeerAt w5 bp 0 3 [3, 0, 0] [⟨1, 0, 97, true⟩, ⟨2, 0, 98, false⟩] bk rv5 := hP5
  clear hP4 hP5 hn5 hk5 hk04 hr3
  go_wp2_with fail
  refine (known_any bp 0 3 [3, 0, 0] _ bk rv5 w5 hP5' (by decide) (by decide)).mono ?_
  rintro e6 w6 ⟨rfl, hc6, hk6⟩
  rw [show ([3, 0, 0] : List Nat).length = 3 from rfl]
  have g0 : w6.cell? ⟨w5.heap.size, 0, none⟩ = some (.int .i64 3) := by rw [Lib.cell_of_heap hc6]; rfl
  have g1 : w6.cell? ⟨w5.heap.size, 1, none⟩ = some (.int .i64 0) := by rw [Lib.cell_of_heap hc6]; rfl
  have hP6 := hP5'.quiet hk6
  have hk06 := hk05.trans' hk6
  have hz6 := lt_of_heap hc6
  clear hP5' hk05 hk6 hc6
  go_wp2_with fail
  refine (text_any bp 0 3 [3, 0, 0] _ bk rv5 w6 hP6 (by decide) (fun e he => by
    simp only [List.mem_cons, List.not_mem_nil, or_false] at he
    rcases he with rfl | rfl <;> exact ⟨by decide, by decide, by decide, by decide⟩)).mono ?_
  rintro e7 w7 ⟨rfl, hk7⟩
  rw [show (textBytes [⟨1, 0, 97, true⟩, ⟨2, 0, 98, false⟩]).toArray = #[98] from by decide +kernel]
  have g0' := hk7.cell' g0 (fun h => h)
  have g1' := hk7.cell' g1 (fun h => h)
  have hk07 := hk06.trans' hk7
  clear hP6 hk06 hk7 g0 g1
  go_wp2
  go_ret
  exact ⟨rfl, hk07⟩

end Go.Proofs.Ytgijpjompclonaa
