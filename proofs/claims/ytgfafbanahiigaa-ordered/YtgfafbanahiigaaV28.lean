import Derived.Test.YtgfafbanahiigaaV19a
import Derived.Test.YtgfafbanahiigaaRU
import Derived.Lib.QuietBelow
set_option linter.unusedVariables false
set_option linter.unusedSimpArgs false
namespace Go.Proofs.Ytgfafbanahiigaa
open Go.RowKit Go.Chorus Go.Sort

/-- The character x stands ahead of y in the tree. -/
def Ahd (H : List Ope) (x y : Nat) : Prop := ∃ a ∈ H, ∃ b ∈ H, a.ins = true ∧ b.ins = true ∧ a.char = 19968 + x ∧ b.char = 19968 + y ∧ pbefore (pathOf H (opNm a)) (pathOf H (opNm b))

theorem Ahd.more {H H' : List Ope} {x y : Nat} (h : Ahd H x y) (hh : H' = H ∨ ∃ o, H' = o :: H) (hk : HistOk H') : Ahd H' x y := by
  rcases hh with rfl | ⟨o, rfl⟩
  · exact h
  · obtain ⟨a, ha, b, hb, h1, h2, h3, h4, h5⟩ := h
    exact ⟨a, by simp [ha], b, by simp [hb], h1, h2, h3, h4, by rw [pathOf_cons hk ha, pathOf_cons hk hb]; exact h5⟩

theorem Ahd.not {t : Nat} {H : List Ope} {ss : Nat → Pr} {count : Nat} (g : GOk t H ss count) {x y : Nat} (h : Ahd H x y) : ¬ Ahd H y x := by
  rintro ⟨c, hc, d, hd, k1, k2, k3, k4, k5⟩
  obtain ⟨a, ha, b, hb, h1, h2, h3, h4, h5⟩ := h
  have e1 : c = b := g.dist c hc b hb k1 h2 (by rw [k3, h4])
  have e2 : d = a := g.dist d hd a ha k2 h1 (by rw [k4, h3])
  subst e1 e2
  exact pbefore_irrefl _ (pbefore_trans h5 k5)

theorem liveChars_eq (es : List El) : liveChars es = (es.filter fun e => !e.dead).map (·.char) := by
  induction es with
  | nil => rfl
  | cons e r ih =>
    unfold liveChars
    cases hd : e.dead with
    | true => simp [hd, ih]
    | false => simp [hd, ih]

/-- Two characters of a text, one behind the other. -/
theorem GOk.ahead {t : Nat} {H : List Ope} {ss : Nat → Pr} {count : Nat} (g : GOk t H ss count) {k : Nat} (hk : k < 3) {i j : Nat} (hij : i < j) {c1 c2 : Int} (h1 : (liveChars (ss k).row)[i]? = some c1) (h2 : (liveChars (ss k).row)[j]? = some c2) :
    ∃ x y : Nat, c1 = 19968 + (x : Int) ∧ c2 = 19968 + (y : Int) ∧ x < count ∧ y < count ∧ x ≠ y ∧ Ahd H x y := by
  rw [liveChars_eq, List.getElem?_map] at h1 h2
  have hp : ((ss k).row.filter fun e => !e.dead).Pairwise fun a b => pbefore (pathOf H (nm a)) (pathOf H (nm b)) := (g.ok k hk).1.view.ordered.sublist List.filter_sublist
  obtain ⟨e1, hf1, rfl⟩ := Option.map_eq_some_iff.1 h1
  obtain ⟨e2, hf2, rfl⟩ := Option.map_eq_some_iff.1 h2
  obtain ⟨hi, he1⟩ := List.getElem?_eq_some_iff.1 hf1
  obtain ⟨hj, he2⟩ := List.getElem?_eq_some_iff.1 hf2
  have hb := List.pairwise_iff_getElem.1 hp i j hi hj hij
  rw [he1, he2] at hb
  have m1 : e1 ∈ (ss k).row := (List.mem_filter.1 (List.mem_of_getElem? hf1)).1
  have m2 : e2 ∈ (ss k).row := (List.mem_filter.1 (List.mem_of_getElem? hf2)).1
  obtain ⟨a, a1, a2, a3, a4, a5⟩ := g.elem hk m1
  obtain ⟨b, b1, b2, b3, b4, b5⟩ := g.elem hk m2
  have ca := g.chr a a1 a2
  have cb := g.chr b b1 b2
  refine ⟨a.char - 19968, b.char - 19968, by omega, by omega, by omega, by omega, ?_, ⟨a, a1, b, b1, a2, b2, by omega, by omega, by rw [a4, b4]; exact hb⟩⟩
  intro e
  have : a = b := g.dist a a1 b b1 a2 b2 (by omega)
  subst this
  rw [← a4, ← b4] at hb
  exact pbefore_irrefl _ hb

def bools (l : List Bool) : Array Value := (l.map fun (b : Bool) => Value.bool b).toArray

theorem bools_at (l : List Bool) (i : Nat) : (bools l)[i]? = l[i]?.map fun (b : Bool) => Value.bool b := by simp [bools]

theorem bools_set (l : List Bool) (i : Nat) (b : Bool) : (bools l).setIfInBounds i (.bool b) = bools (l.set i b) := by simp [bools, List.map_set]

theorem made_falses (n : Nat) : madeCells #[Value.bool false] (n * 1) = bools (List.replicate n false) := by
  apply Array.ext
  · simp [madeCells, bools]
  · intro i h1 h2
    simp [madeCells, bools, Nat.mod_one]

theorem info_bool : (Try.prog.info? 4).map (fun i => (i.zero, i.size, i.bytes)) = some (some (.bool false), 1, 1) := by kernel_rfl

theorem runes_cells {w : World} {v : Value} {l : List Int} (h : RunesAt w v l) : ∃ a cp, v = .slice a l.length cp ∧ (a = none → l = []) ∧ (∀ ad, a = some ad → ∃ g, ad = ⟨g, 0, none⟩ ∧ ∀ i c, l[i]? = some c → w.cell? ⟨g, i, none⟩ = some (.int .i32 c)) := by
  rcases h.2 with ⟨rfl, h0⟩ | ⟨g, cap, cur, rfl, _, hg, hnc, hm, _, htk⟩
  · exact ⟨none, 0, by rw [h0], fun _ => List.length_eq_zero_iff.1 h0, fun ad h => by cases h⟩
  · refine ⟨_, cap, rfl, fun hh => (by cases hh), ?_⟩
    intro ad had
    cases had
    refine ⟨g, rfl, fun i c hi => ?_⟩
    have hil : i < l.length := (List.getElem?_eq_some_iff.1 hi).1
    have : (l.map fun c => Value.int .i32 c)[i]? = some (.int .i32 c) := by simp [hi]
    rw [Lib.cell_of_heap hg, ← Array.getElem?_toList, ← this, ← htk, List.getElem?_take, if_pos (by omega)]

/-- A block of its own beside the group is written. -/
theorem GSt.beside {B : Nat → Prop} {w w' : World} {bg bl lc : Nat} {bp : Nat → Nat} {ss : Nat → Pr} {Fs : Nat → Nat → Prop} {pv : Value} {mds : List Mk} {count : Nat} (h : GSt B w bg bl lc bp ss Fs pv mds count) {g : Nat} {cs : Array Value} (hg : w.heap[g]? = some (.cells cs 4 (0, 0))) (hB : ¬ B g) (k : Kept (fun b => b = g) w w') : GSt B w' bg bl lc bp ss Fs pv mds count := by
  obtain ⟨cur, h1, h2⟩ := h.list
  refine ⟨k.heap h.block (fun e => hB (e ▸ h.base.1)), ⟨cur, k.heap h1 (fun e => hB (e ▸ h.base.2.1)), h2⟩, fun j hj => (h.peers j hj).keep k (fun b hb e => hB (e ▸ h.base.2.2.1 j hj b hb)), h.apart, ownsRow_kept h.packets k (fun b hb e => hB (e ▸ h.base.2.2.2 b hb)), h.out, fun m hm => ?_, h.base⟩
  obtain ⟨cur, a, b⟩ := h.knows m hm
  refine ⟨cur, k.heap a (fun e => ?_), b⟩
  rw [e, hg] at a
  simp at a

/-- What the matrix says is so. -/
def MatOk (H : List Ope) (A : List Bool) : Prop := A.length = 3600 ∧ ∀ x y, x < 60 → y < 60 → A[x * 60 + y]? = some true → Ahd H x y

set_option maxHeartbeats 4000000 in
set_option maxRecDepth 100000 in
theorem ordered_any (a : Option Addr) (n cap : Nat) (w : World) (hn : n ≤ 9223372036854775807) (hs : StepsAt w a n)
    (hstep : ∀ (B : Nat → Prop) (w : World) (bg bl lc : Nat) (bp : Nat → Nat) (ss : Nat → Pr) (Fs : Nat → Nat → Prop) (pv : Value) (mds : List Mk) (count t : Nat) (H : List Ope) (G : GSt B w bg bl lc bp ss Fs pv mds count) (O : GOk t H ss count) (hH : (mds.map Mk.o).reverse = H) (ht : t ≤ 300) (hB : ∀ b, w.heap.size ≤ b → B b)
      (kind peer at_ which : Int) (hki : i64ok kind) (hpe : i64ok peer) (hat : i64ok at_) (hwh : i64ok which),
      Calls Try.prog 19 #[.pointer (some ⟨bg, 0, none⟩), .agg #[.int .i64 kind, .int .i64 peer, .int .i64 at_, .int .i64 which]] w fun e' w' => e' = .returned (.bool true) ∧ Kept B w w' ∧ ∃ (ss' : Nat → Pr) (Fs' : Nat → Nat → Prop) (pv' : Value) (mds' : List Mk) (count' : Nat), GSt B w' bg bl lc bp ss' Fs' pv' mds' count' ∧ GOk (t + 1) ((mds'.map Mk.o).reverse) ss' count' ∧ ((mds'.map Mk.o).reverse = H ∨ ∃ o, (mds'.map Mk.o).reverse = o :: H)) :
    Calls Try.prog 5 #[.slice a n cap] w fun e' w' => e' = .returned (.bool true) ∧ Kept (fun _ => False) w w' := by
  obtain ⟨i0, hi, hz0, hz1, hz2⟩ := info_parts info_bool
  have hmk : ∀ w : World, (Instr.makeSlice 47 (.int .i64 3600) (.int .i64 3600)).run Try.prog w = .ok (.slice (some ⟨w.heap.size, 0, none⟩) 3600 3600) (w.alloc (.cells (bools (List.replicate 3600 false)) 4)) := fun w => by
    have := run_make w 47 4 i0 (.bool false) Try.underlying47 hi hz0 .i64 .i64 3600 3600 (by omega) (by omega) (by rw [hz2]; omega) (by omega)
    rw [hz1] at this
    rw [← made_falses]
    exact this
  clear hi hz0 hz1 hz2
  go_enter Try.func5, Try.ntmps5
  go_wp2_with fail
  refine (fresh_any w).mono ?_
  rintro e1 w1 ⟨bg, bl, lc, bp, Fs, rfl, G1, hk1⟩
  go_wp2
  obtain ⟨gA, hgA⟩ : ∃ gA, w1.heap.size = gA := ⟨_, rfl⟩
  have hA0 : (w1.alloc (.cells (bools (List.replicate 3600 false)) 4)).heap[gA]? = some (.cells (bools (List.replicate 3600 false)) 4 (0, 0)) := by rw [← hgA]; exact heap_alloc_new w1 _
  have G2 : GSt (fun b => w.heap.size ≤ b ∧ b ≠ gA) (w1.alloc (.cells (bools (List.replicate 3600 false)) 4)) bg bl lc bp stNew Fs (.slice none 0 0) [] 0 :=
    ((G1.old (gA + 1)).mono (B' := fun b => w.heap.size ≤ b ∧ b ≠ gA) (fun b hb => ⟨hb.1, by have := hb.2; omega⟩)).quiet ((Kept.refl _ _).alloc _)
  have hk2 : Kept (fun _ => False) w (w1.alloc (.cells (bools (List.replicate 3600 false)) 4)) := hk1.alloc _
  have hgAw : w.heap.size ≤ gA := by rw [← hgA]; exact hk1.size
  have hM0 : MatOk [] (List.replicate 3600 false) := ⟨by simp, fun x y hx hy h => by
    have := List.eq_of_mem_replicate (List.mem_of_getElem? h)
    cases this⟩
  rw [hgA]
  clear G1 hk1
  go_loopw [5] (fun i wr => ∃ (k : Nat) (ss : Nat → Pr) (Fs : Nat → Nat → Prop) (pv : Value) (mds : List Mk) (count : Nat) (A : List Bool), k ≤ n ∧ k ≤ 60 ∧ i = .int .i64 k ∧ GSt (fun b => w.heap.size ≤ b ∧ b ≠ gA) wr bg bl lc bp ss Fs pv mds count ∧ GOk k ((mds.map Mk.o).reverse) ss count ∧ Kept (fun _ => False) w wr ∧ wr.heap[gA]? = some (.cells (bools A) 4 (0, 0)) ∧ MatOk ((mds.map Mk.o).reverse) A) (fun i _ => 60 - (intOf i).toNat)
  case atStart => exact ⟨0, stNew, Fs, _, [], 0, _, Nat.zero_le _, Nat.zero_le _, rfl, G2, GOk.start, hk2, hA0, hM0⟩
  case round =>
    clear G2 hk2 hA0 hM0
    obtain ⟨k, ss, Fs, pv, mds, count, A, hkn, hk60, rfl, G, O, hK, hA, hM⟩ := hrel
    by_cases hlt : k < n ∧ k < 60
    · obtain ⟨hlt1, hlt2⟩ := hlt
      have hd1 : decide ((k : Int) < (n : Int)) = true := by rw [decide_eq_true_iff]; omega
      have hd2 : decide ((k : Int) < 60) = true := by rw [decide_eq_true_iff]; omega
      have hd3 : (k : Int) < (n : Int) := by omega
      have hd4 : (k : Int) < 60 := by omega
      obtain ⟨b, off, kd, pe, at_, wh, rfl, s0, s1, s2, s3, r0, r1, r2, r3⟩ := (hs.kept hK) k hlt1
      obtain ⟨p, hp⟩ : ∃ p : Nat, pickN pe 3 = p := by
        have := pickN_lo pe 3 (by decide)
        exact ⟨(pickN pe 3).toNat, by omega⟩
      have hp3 : p < 3 := by have := pickN_hi pe 3 (by decide); omega
      have HP : Hid (pickN pe 3 = (p : Int)) := hp
      clear hp
      have hst := hstep (fun b => w.heap.size ≤ b ∧ b ≠ gA) wr bg bl lc bp ss Fs pv mds count k _ G O rfl (by omega) (fun b hb => ⟨Nat.le_trans hK.size hb, by have := lt_of_heap hA; omega⟩) kd pe at_ wh r0 r1 r2 r3
      go_wp2_with fail
      refine hst.mono ?_
      rintro e2 w2 ⟨rfl, hk2, ss2, Fs2, pv2, mds2, count2, G2, O2, hHH⟩
      have hK2 : Kept (fun _ => False) w w2 := hK.trans hk2 (fun i hi h => by have h' := h.1; omega)
      have hA2 := hk2.heap hA (fun h => h.2 rfl)
      have hM2 : MatOk ((mds2.map Mk.o).reverse) A := ⟨hM.1, fun x y hx hy h => (hM.2 x y hx hy h).more hHH O2.hist⟩
      have hbw : b < w.heap.size := by
        obtain ⟨b0, off0, _, _, _, _, he, c0, _⟩ := hs k hlt1
        injection he with he
        injection he with he1
        rw [he1]; exact World.block_lt_of_cell? w _ c0
      have t1 : w2.cell? ⟨b, off + k * 4 + 1, none⟩ = some (.int .i64 pe) := hk2.cell' s1 (fun h => by have h' : w.heap.size ≤ b := h.1; omega)
      have bz : b < w2.heap.size := Nat.lt_of_lt_of_le hbw hK2.size
      have c0 : w2.cell? ⟨bg, 0, none⟩ = some (.slice (some ⟨bl, 0, none⟩) 3 lc) := by rw [Lib.cell_of_heap G2.block]; rfl
      have cz := lt_of_heap G2.block
      obtain ⟨cur, hl1, hl2⟩ := G2.list
      have cl : w2.cell? ⟨bl, p, none⟩ = some (.pointer (some ⟨bp p, 0, none⟩)) := by rw [Lib.cell_of_heap hl1]; exact hl2 p hp3
      have lz := lt_of_heap hl1
      have hp3i : (p : Int) < 3 := by omega
      have hrl : (ss2 p).row.length ≤ 4294967296 := by
        have := O2.size p hp3
        unfold psize at this
        omega
      have htx := fun W (hW : Kept (fun _ => False) w2 W) => text_pm (ss2 p) (bp p) (Fs2 p) W ((G2.peers p hp3).quiet hW) hrl (O2.fit p hp3).row
      simp only [text_chars] at htx
      have h3 := O2.three (by omega) hp3
      have hcl : (liveChars (ss2 p).row).length ≤ 4294967296 := Nat.le_trans (liveChars_len _) hrl
      obtain ⟨cs, hcs⟩ : ∃ cs, liveChars (ss2 p).row = cs := ⟨_, rfl⟩
      rw [hcs] at htx h3 hcl
      have HG : Hid (GSt (fun b => w.heap.size ≤ b ∧ b ≠ gA) w2 bg bl lc bp ss2 Fs2 pv2 mds2 count2 ∧ GOk (k + 1) ((mds2.map Mk.o).reverse) ss2 count2 ∧ Kept (fun _ => False) w w2 ∧ w2.heap[gA]? = some (.cells (bools A) 4 (0, 0)) ∧ MatOk ((mds2.map Mk.o).reverse) A ∧ liveChars (ss2 p).row = cs) := ⟨G2, O2, hK2, hA2, hM2, hcs⟩
      clear hst G O G2 O2 hk2 hK2 s0 s1 s2 s3 hl1 hl2 hA hM hA2 hM2 hHH hcs hbw
      have hkp : ∀ W' : World, Calls Try.prog 13 #[.int .i64 pe, .int .i64 3] W' fun e' w' => e' = .returned (.int .i64 (p : Int)) ∧ w' = W' := fun W' =>
        (kpick_any pe 3 W' (by decide) (by decide) r1.1 r1.2).mono (fun e' w' ⟨h1, h2⟩ => ⟨by rw [h1, HP.out], h2⟩)
      go_wp2_with fail
      refine wp_region_three 12 3 (by kernel_rfl) (by kernel_rfl) ?_
      simp only [List.take_succ_cons, List.take_zero, List.drop_succ_cons, List.drop_zero]
      change wpStill _ _ (World.drew _) _ _ _
      repeat (first | still_step | still_call (hkp _))
      refine wpStill_nil ?_
      go_wp2_with fail
      refine (htx _ ((Kept.refl _ _).drew)).mono ?_
      rintro e4 w4 ⟨rfl, hk4⟩
      clear htx
      go_wp2_with fail
      refine (letters_any cs w4 h3 hcl).mono ?_
      rintro e5 w5 ⟨v, rfl, hR, hk5, hv5⟩
      have hK25 : Kept (fun _ => False) w2 w5 := ((Kept.refl _ _).drew.trans' hk4).trans' hk5
      have hkx : Kept (fun _ => False) w2 w4 := (Kept.refl _ _).drew.trans' hk4
      obtain ⟨av, cpv, hv, hcv1, hcv2⟩ := own_slice hR
      subst hv
      clear hk4 hk5 c0 cl t1
      go_wp2_with fail
      change wpStill _ _ _ _ _ _
      refine wpStill_nil ?_
      go_wp2_with fail
      have hlen : cs.length ≤ 60 := by
        obtain ⟨_, O2, _, _, _, hcs⟩ := HG.out
        have h1 := liveChars_len (ss2 p).row
        have h2 := O2.size p hp3
        unfold psize at h2
        rw [hcs] at h1
        omega
      have hcell : ∀ (i : Nat) (c : Int), cs[i]? = some c → ∃ g, av = some ⟨g, 0, none⟩ ∧ w5.cell? ⟨g, i, none⟩ = some (.int .i32 c) ∧ g ≠ gA := by
        intro i c hi
        obtain ⟨a2, cp2, hv2, g0, g1⟩ := runes_cells hR
        injection hv2 with hv2
        subst hv2
        cases hav : av with
        | none =>
          have := g0 hav
          rw [this] at hi; simp at hi
        | some ad =>
          obtain ⟨g, hg, hc⟩ := g1 ad hav
          refine ⟨g, by rw [hg], hc i c hi, ?_⟩
          have h1 := hv5 g (by rw [hav, hg]; rfl)
          have h2 := lt_of_heap (hkx.heap HG.out.2.2.2.1 (fun h => h))
          omega
      have hA5 := hK25.heap HG.out.2.2.2.1 (fun h => h)
      have hM5 := HG.out.2.2.2.2.1
      clear hR hv5
      obtain ⟨wo, hwo⟩ : ∃ wo : World, wo = w5 := ⟨_, rfl⟩
      go_loopw [8] (fun av' wa => ∃ (a' : Nat) (A' : List Bool), a' ≤ cs.length ∧ av' = .int .i64 a' ∧ Kept (fun k => k = gA) w5 wa ∧ wa.heap[gA]? = some (.cells (bools A') 4 (0, 0)) ∧ MatOk ((mds2.map Mk.o).reverse) A') (fun av' _ => cs.length - (intOf av').toNat)
      case atStart => exact ⟨0, A, Nat.zero_le _, rfl, Kept.refl _ _, hA5, hM5⟩
      case round =>
        obtain ⟨a', A', ha1, rfl, hKa, hAa, hMa⟩ := hrel
        by_cases hal : a' < cs.length
        · have hal2 : (a' : Int) < (cs.length : Int) := by omega
          go_wp2
          go_loopw [9] (fun bv wb => ∃ (b' : Nat) (A' : List Bool), b' ≤ cs.length ∧ a' < b' ∧ bv = .int .i64 b' ∧ Kept (fun k => k = gA) w5 wb ∧ wb.heap[gA]? = some (.cells (bools A') 4 (0, 0)) ∧ MatOk ((mds2.map Mk.o).reverse) A') (fun bv _ => cs.length - (intOf bv).toNat)
          case atStart => exact ⟨a' + 1, A', by omega, by omega, by go_num, hKa, hAa, hMa⟩
          case round =>
            obtain ⟨b', A2, hb1, hb2, rfl, hKb, hAb, hMb⟩ := hrel
            by_cases hbl : b' < cs.length
            · have hbl2 : (b' : Int) < (cs.length : Int) := by omega
              obtain ⟨c1, hc1⟩ : ∃ c, cs[a']? = some c := ⟨_, List.getElem?_eq_getElem hal⟩
              obtain ⟨c2, hc2⟩ : ∃ c, cs[b']? = some c := ⟨_, List.getElem?_eq_getElem hbl⟩
              obtain ⟨g, rfl, d1, hgA1⟩ := hcell a' c1 hc1
              obtain ⟨g', hgg, d2, _⟩ := hcell b' c2 hc2
              cases hgg
              have hcs2 := HG.out.2.2.2.2.2
              obtain ⟨x, y, rfl, rfl, hxc, hyc, hxy, hah⟩ := HG.out.2.1.ahead hp3 hb2 (by rw [hcs2]; exact hc1) (by rw [hcs2]; exact hc2)
              have hcnt := HG.out.2.1.cnt
              have hx60 : x < 60 := by omega
              have hy60 : y < 60 := by omega
              have hfalse : A2[y * 60 + x]? = some false := by
                have hl : y * 60 + x < A2.length := by rw [hMb.1]; omega
                rw [List.getElem?_eq_getElem hl]
                cases hv : A2[y * 60 + x] with
                | false => rfl
                | true => exact absurd (hMb.2 y x hy60 hx60 (by rw [List.getElem?_eq_getElem hl, hv])) (Ahd.not HG.out.2.1 hah)
              have k1 := hKb.cell' d1 hgA1
              have k2 := hKb.cell' d2 hgA1
              have kz := World.block_lt_of_cell? wr _ k1
              have m1 : wr.cell? ⟨gA, y * 60 + x, none⟩ = some (.bool false) := by rw [Lib.cell_of_heap hAb, bools_at, hfalse]; rfl
              have az := lt_of_heap hAb
              have m2 : ∃ v, wr.cell? ⟨gA, x * 60 + y, none⟩ = some v := by
                rw [Lib.cell_of_heap hAb, bools_at]
                have hl : x * 60 + y < A2.length := by rw [hMb.1]; omega
                rw [List.getElem?_eq_getElem hl]
                exact ⟨_, rfl⟩
              obtain ⟨v2, m2⟩ := m2
              have mf : ∀ j, wr.frozen? ⟨gA, j, none⟩ = false := Lib.frozen_of_heap hAb
              have HN : Hid ((wr.setCell ⟨gA, x * 60 + y, none⟩ (.bool true)).heap[gA]? = some (.cells (bools (A2.set (x * 60 + y) true)) 4 (0, 0)) ∧ MatOk ((mds2.map Mk.o).reverse) (A2.set (x * 60 + y) true)) := by
                refine ⟨by rw [heap_set_same hAb, bools_set], by rw [List.length_set]; exact hMb.1, fun x' y' hx' hy' h => ?_⟩
                rw [List.getElem?_set] at h
                split at h
                · rename_i he
                  have e1 : x' = x := by omega
                  have e2 : y' = y := by omega
                  subst e1 e2
                  exact hah
                · exact hMb.2 x' y' hx' hy' h
              clear hc1 hc2 d1 d2 hfalse hAb hMb hah
              go_wp2
              any_goals (exfalso; rename_i hbad; simp only [beq_iff_eq] at hbad; omega)
              all_goals
                go_roundw
                case rel => exact ⟨b' + 1, _, by omega, by omega, by go_num, hKb.setCell (fun _ => rfl) _, HN.out.1, HN.out.2⟩
                case measure => simp [intOf]; omega
            · go_wp2
              go_roundw
              case rel => exact ⟨a' + 1, A2, by omega, by go_num, hKb, hAb, hMb⟩
              case measure => simp [intOf]; omega
        · go_wp2
          go_roundw
          case rel =>
            obtain ⟨G2, O2, hK2, hA2, hM2, hcs2⟩ := HG.out
            exact ⟨k + 1, ss2, Fs2, pv2, mds2, count2, A', by omega, by omega, by go_num, (G2.quiet hK25).beside hA5 (fun h => h.2 rfl) hKa, O2, (hK2.trans' hK25).trans hKa (fun i hi h => by omega), hAa, hMa⟩
          case measure => simp [intOf]; omega
    · by_cases h1 : k < n
      · have h2 : ¬ (k : Int) < 60 := by omega
        have h3 : decide ((k : Int) < 60) = false := by rw [decide_eq_false_iff_not]; exact h2
        have h4 : (k : Int) < (n : Int) := by omega
        have h5 : ¬ k < 60 := by omega
        clear hlt
        go_wp2
        all_goals go_ret
        all_goals exact ⟨rfl, hK⟩
      · have h2 : ¬ (k : Int) < (n : Int) := by omega
        have h3 : decide ((k : Int) < (n : Int)) = false := by rw [decide_eq_false_iff_not]; exact h2
        clear hlt
        go_wp2
        all_goals go_ret
        all_goals exact ⟨rfl, hK⟩

end Go.Proofs.Ytgfafbanahiigaa
