import Derived.Test.YtgfafbanahiigaaGreatH2
import Derived.Deep.QuietTactic
import Derived.BigQuiet
set_option linter.unusedVariables false
set_option linter.unusedSimpArgs false
namespace Go.Proofs.YtgfafbanahiigaaGreat
open Go.RowKit Go.Chorus

/-- Can it be delivered? -/
def canB (known : List Nat) (o : Ope) : Bool := Pr.can ⟨0, 0, known, [], [], []⟩ o

theorem canB_can (s : Pr) (o : Ope) : s.can o = canB s.known o := rfl

theorem canB_iff (known : List Nat) (o : Ope) : canB known o = true ↔ o.num = known.getD o.peer 0 + 1 ∧ ∀ j, j < known.length → o.seen.getD j 0 ≤ known.getD j 0 := can_iff _ o

set_option maxHeartbeats 1000000 in
set_option maxRecDepth 100000 in
theorem can_any (bp kc : Nat) (K : Log) (known : List Nat) (o : Ope) (g cap : Nat) (w : World) (hb : w.cell? ⟨bp, 2, none⟩ = some (.slice (some ⟨K.b, 0, none⟩) known.length kc)) (hk : LogAt w K known)
    (hkf : ∀ n ∈ known, n < 4294967296) (hR : RightOp known.length o) (hs : ∀ (i n : Nat), o.seen[i]? = some n → w.cell? ⟨g, i, none⟩ = some (.int .u32 (n : Int))) :
    Calls Tryz.prog 64 #[.pointer (some ⟨bp, 0, none⟩), .agg #[.int .u8 o.kind, .int .u8 o.peer, .int .u32 o.num, .int .u32 o.clock, .slice (some ⟨g, 0, none⟩) o.seen.length cap, .int .u32 o.nclock, .int .u8 o.npeer, .int .i32 o.char]] w fun e' w' =>
      e' = .returned (.bool (canB known o)) ∧ Kept (fun _ => False) w w' := by
  have hsl := hR.seen
  have hpl := hR.peer
  have hN := hR.group
  have hbw := World.block_lt_of_cell? w _ hb
  obtain ⟨sl, hsl2⟩ : ∃ sl, o.seen.length = sl := ⟨_, rfl⟩
  rw [hsl2] at hsl ⊢
  obtain ⟨kd, hkd⟩ : ∃ kd, o.kind = kd := ⟨_, rfl⟩
  rw [hkd]
  have hW : ∀ x : Obj, Kept (fun _ => False) w (w.alloc x) := fun x => (Kept.refl _ _).alloc x
  go_enter Tryz.func64, Tryz.ntmps64
  have hgw : g < w.heap.size := by
    obtain ⟨n, hn⟩ : ∃ n, o.seen[o.peer]? = some n := ⟨_, List.getElem?_eq_getElem (by omega)⟩
    exact World.block_lt_of_cell? w _ (hs _ n hn)
  go_wp2
  go_loop [10] (fun i => ∃ k : Nat, k ≤ known.length ∧ i = .int .i64 k ∧ Hid (∀ j, j < k → o.seen.getD j 0 ≤ known.getD j 0)) (fun i => known.length - (intOf i).toNat)
  case atStart => exact ⟨0, Nat.zero_le _, rfl, fun j hj => absurd hj (Nat.not_lt_zero _)⟩
  case round =>
    obtain ⟨k, hk1, rfl, hall⟩ := hrel
    by_cases hlt : k < known.length
    · obtain ⟨a, ha⟩ : ∃ a, known[k]? = some a := ⟨_, List.getElem?_eq_getElem hlt⟩
      obtain ⟨b, hb2⟩ : ∃ b, o.seen[k]? = some b := ⟨_, List.getElem?_eq_getElem (by omega)⟩
      have c2 := hs k b hb2
      have hga : known.getD k 0 = a := by rw [List.getD_eq_getElem?_getD, ha]; rfl
      have hgb : o.seen.getD k 0 = b := by rw [List.getD_eq_getElem?_getD, hb2]; rfl
      have haf := hkf a (List.mem_of_getElem? ha)
      have hbf := hR.fits b (List.mem_of_getElem? hb2)
      have hct := fun x => hCount_log bp 2 kc k a K known (w.alloc x) ((hW _).cell' hb (fun h => h)) (hk.quiet (hW _)) ha haf
      by_cases hab : a < b
      · have e1 : (a : Int) < (b : Int) := by omega
        have HC : Hid (canB known o = false) := by
          show canB known o = false
          cases hc : canB known o with
          | false => rfl
          | true => have := ((canB_iff known o).1 hc).2 k hlt; rw [hga, hgb] at this; omega
        clear ha hb2 hga hgb hk hs hR hkf hab
        go_wp2_with fail
        refine (hct _).mono ?_
        rintro e2 w2 ⟨rfl, rfl⟩
        go_wp2
        go_ret
        exact ⟨ret_bool HC.out.symm, (Kept.refl _ _).alloc _⟩
      · have e1 : ¬ (a : Int) < (b : Int) := by omega
        have HA : Hid (∀ j, j < k + 1 → o.seen.getD j 0 ≤ known.getD j 0) := fun j hj => by
          by_cases h : j = k
          · subst h; rw [hga, hgb]; omega
          · exact hall.out j (by omega)
        clear ha hb2 hga hgb hk hs hR hkf hab
        go_wp2_with fail
        refine (hct _).mono ?_
        rintro e2 w2 ⟨rfl, rfl⟩
        go_wp2
        go_round
        case rel => exact ⟨k + 1, by omega, by go_num, HA⟩
        case measure => simp [intOf]; omega
    · have hke : k = known.length := by omega
      obtain ⟨a, ha⟩ : ∃ a, known[o.peer]? = some a := ⟨_, List.getElem?_eq_getElem hpl⟩
      have haf := hkf a (List.mem_of_getElem? ha)
      have hga : known.getD o.peer 0 = a := by rw [List.getD_eq_getElem?_getD, ha]; rfl
      have hnum := hR.num
      have hct := fun W (hW : Kept (fun _ => False) w W) => hCount_log bp 2 kc o.peer a K known W (hW.cell' hb (fun h => h)) (hk.quiet hW) ha haf
      have hpl2 : (o.peer : Int) < (known.length : Int) := by omega
      obtain ⟨n, hn⟩ : ∃ n, o.num = n := ⟨_, rfl⟩
      have HC : Hid (canB known o = decide (n = a + 1)) := by
        show canB known o = decide (n = a + 1)
        rw [Bool.eq_iff_iff, canB_iff, decide_eq_true_iff, hga, hn]
        exact ⟨fun h => h.1, fun h => ⟨h, fun j hj => hall.out j (by omega)⟩⟩
      rw [hn] at hnum
      rw [hn]
      clear ha hga hk hs hR hkf hall
      go_wp2_with fail
      go_quiet (refine Calls.quiet_of_same (hct _ (((Kept.refl _ _).alloc _).drewN _)))
      go_wp2
      go_ret
      refine ⟨ret_bool ?_, ((Kept.refl _ _).alloc _).drewN _⟩
      rw [HC.out, Bool.eq_iff_iff]
      simp only [beq_iff_eq, decide_eq_true_iff]
      try rw [IntKind.wrap_u32]
      omega

/-- The cells of operations, one by one. -/
def OpsAt (w : World) (g : Nat) (ms : List MOp) : Prop :=
  ∀ i m, ms[i]? = some m → w.cell? ⟨g, i * 8, none⟩ = some (.int .u8 m.o.kind) ∧ w.cell? ⟨g, i * 8 + 1, none⟩ = some (.int .u8 m.o.peer) ∧ w.cell? ⟨g, i * 8 + 2, none⟩ = some (.int .u32 m.o.num) ∧ w.cell? ⟨g, i * 8 + 3, none⟩ = some (.int .u32 m.o.clock) ∧
    w.cell? ⟨g, i * 8 + 4, none⟩ = some (.slice (some ⟨m.g, 0, none⟩) m.o.seen.length m.cap) ∧ w.cell? ⟨g, i * 8 + 5, none⟩ = some (.int .u32 m.o.nclock) ∧ w.cell? ⟨g, i * 8 + 6, none⟩ = some (.int .u8 m.o.npeer) ∧ w.cell? ⟨g, i * 8 + 7, none⟩ = some (.int .i32 m.o.char)

theorem OpsAt.kept {S : Nat → Prop} {w w' : World} {g : Nat} {ms : List MOp} (h : OpsAt w g ms) (k : Kept S w w') (hS : ¬ S g) : OpsAt w' g ms := fun i m hm => by
  obtain ⟨h0, h1, h2, h3, h4, h5, h6, h7⟩ := h i m hm
  exact ⟨k.cell' h0 hS, k.cell' h1 hS, k.cell' h2 hS, k.cell' h3 hS, k.cell' h4 hS, k.cell' h5 hS, k.cell' h6 hS, k.cell' h7 hS⟩

/-- What waits, as a slice. -/
def OpsV (w : World) (v : Value) (ms : List MOp) : Prop := ∃ a cp, v = .slice a ms.length cp ∧ (ms ≠ [] → ∃ g, a = some ⟨g, 0, none⟩ ∧ OpsAt w g ms)

theorem opsV_of_own {w : World} {hv : Value} {ms : List MOp} (h : w.ownsRow 0 115 8 hv ms.length (opsCells ms)) : OpsV w hv ms := by
  rcases h.2 with ⟨rfl, h0⟩ | ⟨g, cap, cur, rfl, _, hg, _, _, _, htk⟩
  · exact ⟨none, 0, by rw [h0], fun hne => absurd (List.length_eq_zero_iff.1 h0) hne⟩
  · refine ⟨_, cap, rfl, fun _ => ⟨g, rfl, fun i e he => ?_⟩⟩
    have hil : i < ms.length := (List.getElem?_eq_some_iff.1 he).1
    have key : ∀ j, j < 8 → w.cell? ⟨g, i * 8 + j, none⟩ = e.cells[j]? := fun j hj => by
      rw [Lib.cell_of_heap hg, ← opsCells_at ms i e he j hj, ← htk, List.getElem?_take, if_pos (by omega), Array.getElem?_toList]
    exact ⟨key 0 (by omega), key 1 (by omega), key 2 (by omega), key 3 (by omega), key 4 (by omega), key 5 (by omega), key 6 (by omega), key 7 (by omega)⟩

/-- The first of a peer and a number: its place; -1: none. -/
def heldFrom (p n : Nat) : List MOp → Nat → Int
  | [], _ => -1
  | m :: r, k => if m.o.peer = p ∧ m.o.num = n then k else heldFrom p n r (k + 1)

theorem heldFrom_drop (p n : Nat) (ms : List MOp) (k : Nat) (m : MOp) (h : ms[k]? = some m) : heldFrom p n (ms.drop k) k = if m.o.peer = p ∧ m.o.num = n then (k : Int) else heldFrom p n (ms.drop (k + 1)) (k + 1) := by
  have hk : k < ms.length := (List.getElem?_eq_some_iff.1 h).1
  have he : ms[k] = m := (List.getElem?_eq_some_iff.1 h).2
  rw [List.drop_eq_getElem_cons hk, he]; rfl

theorem heldFrom_iff (p n : Nat) (ms : List MOp) (k : Nat) : (0 ≤ heldFrom p n ms k) ↔ ∃ m ∈ ms, m.o.peer = p ∧ m.o.num = n := by
  induction ms generalizing k with
  | nil => simp [heldFrom]
  | cons m r ih =>
    unfold heldFrom
    by_cases h : m.o.peer = p ∧ m.o.num = n
    · rw [if_pos h]
      exact ⟨fun _ => ⟨m, by simp, h⟩, fun _ => by omega⟩
    · rw [if_neg h, ih]
      constructor
      · rintro ⟨x, hx, hh⟩; exact ⟨x, by simp [hx], hh⟩
      · rintro ⟨x, hx, hh⟩
        rcases List.mem_cons.1 hx with rfl | hx
        · exact absurd hh h
        · exact ⟨x, hx, hh⟩

set_option maxHeartbeats 400000 in
theorem waitsClos_any (p n : Nat) (m : MOp) (b : Nat) (w : World) (h1 : w.cell? ⟨b, 1, none⟩ = some (.int .u8 p)) (h2 : w.cell? ⟨b, 2, none⟩ = some (.int .u32 n)) :
    Calls Tryz.prog 90 #[.agg #[.int .u8 m.o.kind, .int .u8 m.o.peer, .int .u32 m.o.num, .int .u32 m.o.clock, .slice (some ⟨m.g, 0, none⟩) m.o.seen.length m.cap, .int .u32 m.o.nclock, .int .u8 m.o.npeer, .int .i32 m.o.char], .pointer (some ⟨b, 0, none⟩)] w fun e' w' =>
      e' = .returned (.bool (decide (m.o.peer = p ∧ m.o.num = n))) ∧ Kept (fun _ => False) w w' := by
  have hb : b < w.heap.size := World.block_lt_of_cell? w _ h1
  go_enter Tryz.func90, Tryz.ntmps90
  go_wp2
  all_goals go_ret
  all_goals refine ⟨ret_bool ?_, (Kept.refl _ _).alloc _⟩
  all_goals
    rw [Bool.eq_iff_iff]
    simp only [beq_iff_eq, decide_eq_true_iff, Bool.false_eq_true, false_iff]
    omega

end Go.Proofs.YtgfafbanahiigaaGreat
