import Derived.Test.YtgfafbanahiigaaV19
import Derived.Test.YtgfafbanahiigaaRU
set_option linter.unusedVariables false
set_option linter.unusedSimpArgs false
namespace Go.Proofs.Ytgfafbanahiigaa
open Go.RowKit Go.Chorus

/-- What a step does to a group, and which of the two it is. -/
def Stepped (B : Nat → Prop) (w' : World) (bg bl lc : Nat) (bp : Nat → Nat) (ss : Nat → Pr) (mds : List Mk) (count t : Nat) (H : List Ope) (k : Nat) (kind which : Int) : Prop :=
  ((pickN kind 8 < 5 ∨ mds.length = 0) ∧ ∃ o Fs' pv' kb kc count', o.peer = k ∧ o.seen = (ss k).known ∧ o.num = (ss k).k k + 1 ∧ GSt B w' bg bl lc bp (upd ss k ((ss k).deliverF o).1) Fs' pv' (mds ++ [⟨o, kb, kc⟩]) count' ∧ GOk (t + 1) (o :: H) (upd ss k ((ss k).deliverF o).1) count') ∨
  (¬ (pickN kind 8 < 5 ∨ mds.length = 0) ∧ ∃ (i : Nat) (m : Mk) (Fs' : Nat → Nat → Prop) (pv' : Value), pickN which (mds.length : Int) = (i : Int) ∧ mds[i]? = some m ∧ GSt B w' bg bl lc bp (upd ss k ((ss k).oneF m.o).1) Fs' pv' mds count ∧ GOk (t + 1) H (upd ss k ((ss k).oneF m.o).1) count)

theorem recvAllF_one (N : Nat) (s : Pr) (l : List UInt8) : recvAllF N s [l] = recvF N s l := by
  unfold recvAllF
  split
  · rename_i h
    show ((recvF N s l).1, (recvF N s l).2.1 + 0, (0 : Int)) = _
    rw [Nat.add_zero, ← h]
  · rfl

set_option maxHeartbeats 4000000 in
set_option maxRecDepth 100000 in
theorem gstep_any (B : Nat → Prop) (w : World) (bg bl lc : Nat) (bp : Nat → Nat) (ss : Nat → Pr) (Fs : Nat → Nat → Prop) (pv : Value) (mds : List Mk) (count t : Nat) (H : List Ope) (G : GSt B w bg bl lc bp ss Fs pv mds count) (O : GOk t H ss count) (hH : (mds.map Mk.o).reverse = H) (ht : t ≤ 300) (hB : ∀ b, w.heap.size ≤ b → B b)
    (kind peer at_ which : Int) (hki : i64ok kind) (hpe : i64ok peer) (hat : i64ok at_) (hwh : i64ok which) :
    Calls Try.prog 19 #[.pointer (some ⟨bg, 0, none⟩), .agg #[.int .i64 kind, .int .i64 peer, .int .i64 at_, .int .i64 which]] w fun e' w' => e' = .returned (.bool true) ∧ Kept B w w' ∧ Stepped B w' bg bl lc bp ss mds count t H (pickN peer 3).toNat kind which := by
  have hbw := lt_of_heap G.block
  have pl := pickN_lo peer 3 (by decide)
  have ph := pickN_hi peer 3 (by decide)
  obtain ⟨k, hk⟩ : ∃ k : Nat, pickN peer 3 = k := ⟨(pickN peer 3).toNat, by omega⟩
  have hk3 : k < 3 := by omega
  rw [hk, Int.toNat_natCast]
  have HPK : Hid (pickN peer 3 = k) := hk
  clear hk pl ph
  obtain ⟨hki1, hki2⟩ := hki
  obtain ⟨hpe1, hpe2⟩ := hpe
  go_enter Try.func19, Try.ntmps19
  go_wp2_with fail
  refine (kpick_any peer 3 _ (by decide) (by decide) hpe1 hpe2).mono ?_
  rintro e1 w1 ⟨rfl, rfl⟩
  rw [HPK.out]
  have hkw1 : Kept (fun _ => False) w (w.alloc (.cells #[.int .i64 kind, .int .i64 peer, .int .i64 at_, .int .i64 which] 31)) := (Kept.refl _ w).alloc _
  obtain ⟨W, hW⟩ : ∃ W, W = w.alloc (.cells #[.int .i64 kind, .int .i64 peer, .int .i64 at_, .int .i64 which] 31) := ⟨_, rfl⟩
  have hsb : W.heap[w.heap.size]? = some (.cells #[.int .i64 kind, .int .i64 peer, .int .i64 at_, .int .i64 which] 31 (0, 0)) := by rw [hW]; exact heap_alloc_new w _
  rw [← hW] at hkw1 ⊢
  have G1 := G.quiet hkw1
  have hB1 : ∀ b, W.heap.size ≤ b → B b := fun b hb => hB b (Nat.le_trans hkw1.size hb)
  have s0 : W.cell? ⟨w.heap.size, 0, none⟩ = some (.int .i64 kind) := by rw [Lib.cell_of_heap hsb]; rfl
  have s1 : W.cell? ⟨w.heap.size, 1, none⟩ = some (.int .i64 peer) := by rw [Lib.cell_of_heap hsb]; rfl
  have s2 : W.cell? ⟨w.heap.size, 2, none⟩ = some (.int .i64 at_) := by rw [Lib.cell_of_heap hsb]; rfl
  have s3 : W.cell? ⟨w.heap.size, 3, none⟩ = some (.int .i64 which) := by rw [Lib.cell_of_heap hsb]; rfl
  have sz := lt_of_heap hsb
  have c0 : W.cell? ⟨bg, 0, none⟩ = some (.slice (some ⟨bl, 0, none⟩) 3 lc) := by rw [Lib.cell_of_heap G1.block]; rfl
  have c1 : W.cell? ⟨bg, 1, none⟩ = some pv := by rw [Lib.cell_of_heap G1.block]; rfl
  have cz := lt_of_heap G1.block
  obtain ⟨cur, hl1, hl2⟩ := G1.list
  have cl : W.cell? ⟨bl, k, none⟩ = some (.pointer (some ⟨bp k, 0, none⟩)) := by rw [Lib.cell_of_heap hl1]; exact hl2 k hk3
  have lz := lt_of_heap hl1
  have hwr := gwrite_any B W bg bl lc bp ss Fs pv mds count t H G1 O hH ht hB1 k hk3 kind peer at_ which ⟨hki1, hki2⟩ hat
  have HKW : Hid (Kept (fun _ => False) w W) := hkw1
  obtain ⟨apv, cpv, hpv, _, hpvc⟩ := own_slice G1.packets
  subst hpv
  have HG1 : Hid (GSt B W bg bl lc bp ss Fs (.slice apv mds.length cpv) mds count) := G1
  have hmdl : mds.length ≤ 300 := by
    have h1 := O.len
    rw [← hH, List.length_reverse, List.length_map] at h1
    omega
  clear hW hsb hkw1 G1 G hl1 hl2
  go_wp2_with fail
  refine (kpick_any kind 8 W (by decide) (by decide) hki1 hki2).mono ?_
  rintro e4 w4 ⟨rfl, hw4⟩
  obtain rfl : W = w4 := hw4.symm
  obtain ⟨PK, hPK⟩ : ∃ PK, pickN kind 8 = PK := ⟨_, rfl⟩
  have HPP : Hid (pickN kind 8 = PK) := hPK
  rw [hPK]
  clear hPK
  by_cases hlt5 : PK < 5
  · have HLT : Hid (pickN kind 8 < 5 ∨ mds.length = 0) := by rw [HPP.out]; exact Or.inl hlt5
    clear cl c0
    go_wp2_with fail
    refine hwr.mono ?_
    rintro e5 w5 ⟨rfl, hk5, hS⟩
    have HS : Hid _ := hS
    clear hS hwr s0 s1 s2 s3 c1
    go_wp2
    go_ret
    exact ⟨rfl, (HKW.out.mono (fun _ _ h => h.elim)).trans hk5 (fun _ _ h => h), Or.inl ⟨HLT.out, HS.out⟩⟩
  · by_cases hmd : mds.length = 0
    · have HLT : Hid (pickN kind 8 < 5 ∨ mds.length = 0) := Or.inr hmd
      rw [hmd] at c1
      clear cl c0
      go_wp2_with fail
      refine hwr.mono ?_
      rintro e5 w5 ⟨rfl, hk5, hS⟩
      have HS : Hid _ := hS
      clear hS hwr s0 s1 s2 s3 c1
      go_wp2
      go_ret
      exact ⟨rfl, (HKW.out.mono (fun _ _ h => h.elim)).trans hk5 (fun _ _ h => h), Or.inl ⟨HLT.out, HS.out⟩⟩
    · have HNW : Hid (¬ (pickN kind 8 < 5 ∨ mds.length = 0)) := by
        show ¬ _
        rw [HPP.out]
        rintro (h | h)
        · exact hlt5 h
        · exact hmd h
      clear hwr
      obtain ⟨hwh1, hwh2⟩ := hwh
      have pl := pickN_lo which (mds.length : Int) (by omega)
      have ph := pickN_hi which (mds.length : Int) (by omega)
      obtain ⟨i, hi⟩ : ∃ i : Nat, pickN which (mds.length : Int) = i := ⟨(pickN which (mds.length : Int)).toNat, by omega⟩
      have HI : Hid (pickN which (mds.length : Int) = (i : Int)) := hi
      have hil : i < mds.length := by omega
      have hkp : ∀ W' : World, Calls Try.prog 13 #[.int .i64 which, .int .i64 (mds.length : Int)] W' fun e' w' => e' = .returned (.int .i64 (i : Int)) ∧ w' = W' := fun W' => by
        have := kpick_any which (mds.length : Int) W' (by omega) (by omega) hwh1 hwh2
        rw [hi] at this; exact this
      clear pl ph hi
      obtain ⟨m, hm⟩ : ∃ m, mds[i]? = some m := ⟨_, List.getElem?_eq_getElem hil⟩
      obtain ⟨gp, curp, rfl, hgp, htkp⟩ : ∃ gp curp, apv = some ⟨gp, 0, none⟩ ∧ W.heap[gp]? = some (.cells curp 51 (0, 0)) ∧ curp.toList.take (mds.length * 4) = madesCells mds := by
        rcases HG1.out.packets.2 with ⟨e, h0⟩ | ⟨g, cap, cur, e, _, hg, _, _, _, htk⟩
        · omega
        · injection e with x1 x2 x3
          exact ⟨g, cur, x1, hg, htk⟩
      have cm : W.cell? ⟨gp, i * 4, none⟩ = some (.string ⟨m.o.packet.toArray⟩) := by
        have h1 := madesCells_at mds i m hm 0 (by decide)
        rw [Lib.cell_of_heap hgp, ← Array.getElem?_toList]
        have h2 : (curp.toList.take (mds.length * 4))[i * 4]? = some (.string ⟨m.o.packet.toArray⟩) := by rw [htkp]; exact h1
        rw [List.getElem?_take] at h2
        split at h2
        · exact h2
        · cases h2
      have gz := lt_of_heap hgp
      have hmH : m.o ∈ H := by rw [← hH]; simp; exact ⟨m, List.mem_of_getElem? hm, rfl⟩
      have hmR := O.right m.o hmH
      have hplen : m.o.packet.length ≤ 100 := by
        rw [packet_length, hmR.seen]; split <;> omega
      obtain ⟨W2, hW2⟩ : ∃ W2, W2 = (W.alloc (.cells #[.string ⟨m.o.packet.toArray⟩] 9)).drew := ⟨_, rfl⟩
      have hk2 : Kept (fun _ => False) W W2 := by rw [hW2]; exact ((Kept.refl _ W).alloc _).drew
      have hb2 : W2.heap[W.heap.size]? = some (.cells #[.string ⟨m.o.packet.toArray⟩] 9 (0, 0)) := by rw [hW2]; exact heap_alloc_new W _
      have P2 := (HG1.out.peers k hk3).quiet hk2
      have hrc := receive_any (ss k) 3 (bp k) (Fs k) [m.o.packet] (some ⟨W.heap.size, 0, none⟩) 1 W2 P2 (O.fit k hk3) (by have := O.size k hk3; simp; omega)
        (fun _ => ⟨W.heap.size, rfl, fun q l hq => by
          cases q with
          | zero => simp at hq; subst hq; rw [Lib.cell_of_heap hb2]; rfl
          | succ q => simp at hq⟩)
        (fun ad had hf => by cases had; have := (HG1.out.peers k hk3).lt _ hf; exact absurd this (Nat.lt_irrefl _))
      rw [recvAllF_one, recvF_packet hmR] at hrc
      obtain ⟨O2, q⟩ := O.hear hk3 hmH
      obtain ⟨r, hr⟩ : ∃ r, (ss k).oneF m.o = r := ⟨_, rfl⟩
      have hq0 : r.2.2 = 0 ∨ r.2.2 = 5 := by
        rw [hr] at q
        rcases q.which with h | ⟨h, _⟩
        · exact Or.inl h
        · exact Or.inr h
      have hfin : ∀ w6 : World, Turn (bp k) (Fs k) W2 w6 r.1 → Kept B w w6 ∧ Stepped B w6 bg bl lc bp ss mds count t H k kind which := fun w6 hT => by
        obtain ⟨Fs', G6, K6, _⟩ := (HG1.out.quiet hk2).turn (fun b hb => hB1 b (Nat.le_trans hk2.size hb)) hk3 hT
        rw [← hr] at G6
        exact ⟨((HKW.out.trans' hk2).mono (fun _ _ h => h.elim)).trans K6 (fun _ _ h => h), Or.inr ⟨HNW.out, i, m, Fs', _, HI.out, hm, G6, O2⟩⟩
      have HFIN : Hid _ := hfin
      rw [hr] at hrc
      rw [hW2] at hrc
      obtain ⟨rs, rn, re⟩ := r
      simp only [] at hrc hq0
      simp only [List.length_singleton] at hrc
      have HW2 : Hid _ := hW2
      clear hfin hW2 hk2 hb2 P2 q O2 hgp htkp hm hmH hplen hr
      have e0 : ((mds.length : Int) == 0) = false := by simp; exact fun h => hmd (by rw [h]; rfl)
      have e0' : ¬ ((mds.length : Int) = 0) := by omega
      have hk3i : (k : Int) < 3 := by omega
      have hil2 : (i : Int) < (mds.length : Int) := by omega
      go_wp2
      go_cut [7] (fun ev wc => ev = .int .i64 re ∧ Turn (bp k) (Fs k) W2 wc rs)
      case first =>
        refine wp_region_four 7 22 1 ((W.alloc (.cells #[.string ⟨m.o.packet.toArray⟩] 9)).drew) (.slice (some ⟨W.heap.size, 0, none⟩) 1 1) (by kernel_rfl) (by kernel_rfl) rfl ?_
        simp only [List.take_succ_cons, List.take_zero, List.drop_succ_cons, List.drop_zero]
        change wpTwo _ _ (World.drew _) _ _ _ _
        refine two_step (.pointer (some ⟨bg, 0, none⟩)) rfl (by first | decide | simp [Act.put]) (fun K hK => ?_) (fun K hK => ?_) ?_
        · go_simp; exact hK
        · go_simp; exact hK
        refine two_step (.pointer (some ⟨bg, 0, none⟩)) rfl (by first | decide | simp [Act.put]) (fun K hK => ?_) (fun K hK => ?_) ?_
        · go_simp; exact hK
        · go_simp; exact hK
        refine two_step (.pointer (some ⟨bg, 0, none⟩)) rfl (by first | decide | simp [Act.put]) (fun K hK => ?_) (fun K hK => ?_) ?_
        · go_simp; exact hK
        · go_simp; exact hK
        refine two_step (.slice (some ⟨bl, 0, none⟩) 3 lc) rfl (by first | decide | simp [Act.put]) (fun K hK => ?_) (fun K hK => ?_) ?_
        · go_simp; exact hK
        · go_simp; exact hK
        refine two_step (.int .i64 k) rfl (by first | decide | simp [Act.put]) (fun K hK => ?_) (fun K hK => ?_) ?_
        · go_simp; exact hK
        · go_simp; exact hK
        refine two_step (.pointer (some ⟨bl, k, none⟩)) rfl (by first | decide | simp [Act.put]) (fun K hK => ?_) (fun K hK => ?_) ?_
        · go_simp; exact hK
        · go_simp; exact hK
        refine two_step (.pointer (some ⟨bp k, 0, none⟩)) rfl (by first | decide | simp [Act.put]) (fun K hK => ?_) (fun K hK => ?_) ?_
        · go_simp; exact hK
        · go_simp; exact hK
        refine two_nil ?_
        change wpStill _ _ (World.drew _) _ _ _
        repeat (first | still_step | still_call (hkp _))
        refine wpStill_nil ⟨⟨rfl, ?_⟩, ?_⟩
        · show Sem.run _ _ (World.drew W) = _
          go_simp
          try rfl
        · go_wp2_with fail
          refine hrc.mono ?_
          rintro e6 w6 ⟨rfl, hT⟩
          go_wp2_with fail
          change wpStill _ _ _ _ _ _
          repeat still_step
          refine wpStill_nil ?_
          go_wp2_with fail
          go_meet
          rw [HW2.out]
          exact ⟨rfl, hT⟩
      case rest =>
        obtain ⟨rfl, hT⟩ := hcut
        have HT : Hid _ := HFIN.out wc hT
        clear hT HFIN hkp hrc c0 c1 cl cm s0 s1 s2 s3
        rcases hq0 with h0 | h0
        · subst h0
          go_wp2
          go_ret
          exact ⟨rfl, HT.out.1, HT.out.2⟩
        · subst h0
          go_wp2
          go_ret
          exact ⟨rfl, HT.out.1, HT.out.2⟩

end Go.Proofs.Ytgfafbanahiigaa
