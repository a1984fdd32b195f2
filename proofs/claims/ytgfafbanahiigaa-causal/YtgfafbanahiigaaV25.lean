import Derived.Test.YtgfafbanahiigaaV19a
import Derived.Test.YtgfafbanahiigaaRU
import Derived.Lib.QuietBelow
set_option linter.unusedVariables false
set_option linter.unusedSimpArgs false
namespace Go.Proofs.Ytgfafbanahiigaa
open Go.RowKit Go.Chorus Go.Sort

/-- What Causal asks of a step. -/
def Caused (B : Nat → Prop) (w' : World) (bg bl lc : Nat) (bp : Nat → Nat) (ss : Nat → Pr) (k t : Nat) (kind which : Int) (ss' : Nat → Pr) (Fs' : Nat → Nat → Prop) (pv' : Value) (mds' : List Mk) (count' : Nat) : Prop :=
  GSt B w' bg bl lc bp ss' Fs' pv' mds' count' ∧ GOk (t + 1) ((mds'.map Mk.o).reverse) ss' count' ∧
    (¬ pickN kind 8 < 5 → ∀ (i : Nat) (m : Mk), pickN which (mds'.length : Int) = (i : Int) → mds'[i]? = some m → m.o.num = (ss k).k m.o.peer + 1 → (∀ j, j < 3 → sn m.o j ≤ (ss k).k j) → m.o.num ≤ (ss' k).k m.o.peer)

section
variable {P : Program} {ops : Array Oper} {w0 w1 : World}

/-- One that reads, by the walk at both worlds; the frame is laid out behind it. -/
theorem two_next {Q : Act → Prop} {a : Act} {o : Oper} {l : List Oper} {d : Nat} (v : Value) (hd : o.dst = some d)
    (h0 : ∀ K : Act → Prop, (∀ a', a'.tmps[d]? = some v → wpTwo P ops w0 w1 Q l a' → K a') → if Region.wanted o (yielded ops a.tmps) then o.still P a w0 K else K (a.put o.dst undef))
    (h1 : ∀ K : Act → Prop, (∀ a', a'.tmps[d]? = some v → K a') → if Region.wanted o (yielded ops a.tmps) then o.still P a w1 K else K (a.put o.dst undef)) : wpTwo P ops w0 w1 Q (o :: l) a := by
  have hinj : ∀ u, (a.put o.dst u).tmps[d]? = some v → u = v := fun u hu => by
    rw [hd] at hu
    by_cases hz : d < a.tmps.size
    · simpa [Act.put, hz] using hu
    · simp [Act.put, hz] at hu
  have key : ∀ (W : World) (R : Act → Prop), (if Region.wanted o (yielded ops a.tmps) then o.still P a W (fun a' => a'.tmps[d]? = some v ∧ R a') else ((a.put o.dst undef).tmps[d]? = some v ∧ R (a.put o.dst undef))) → YieldsAt P ops W o v a ∧ R (a.put o.dst v) := fun W R h2 => by
    unfold YieldsAt
    by_cases hw : Region.wanted o (yielded ops a.tmps) = true
    · rw [if_pos hw] at h2
      unfold Oper.still at h2
      generalize hr : (execOp a.eval o).run P W = r at h2
      cases r with
      | ok n w' =>
        cases n <;> simp only [Oper.stillUpon] at h2
        case value u => obtain ⟨rfl, h3, h4⟩ := h2; rw [hinj u h3] at h4 ⊢; exact ⟨.inl ⟨hw, .inl rfl⟩, h4⟩
        case skip => obtain ⟨rfl, h3, h4⟩ := h2; have e := hinj _ h3; rw [e] at h4; exact ⟨.inl ⟨hw, .inr (.inl ⟨rfl, e.symm⟩)⟩, h4⟩
        case enter f args => obtain ⟨rfl, u, hc, h3, h4⟩ := h2; rw [hinj u h3] at hc h4; exact ⟨.inl ⟨hw, .inr (.inr ⟨f, args, rfl, hc⟩)⟩, h4⟩
      | halt x w' => simp only [Oper.stillUpon] at h2
    · rw [if_neg hw] at h2
      have e := hinj _ h2.1
      rw [e] at h2
      exact ⟨.inr ⟨by simpa using hw, e.symm⟩, h2.2⟩
  obtain ⟨k1, k2⟩ := key w0 (wpTwo P ops w0 w1 Q l) (h0 _ (fun a' x y => ⟨x, y⟩))
  exact ⟨v, k1, (key w1 (fun _ => True) (h1 _ (fun a' x => ⟨x, trivial⟩))).1, k2⟩
end

set_option maxHeartbeats 20000000 in
set_option maxRecDepth 100000 in
theorem causal_any (a : Option Addr) (n cap : Nat) (w : World) (hn : n ≤ 9223372036854775807) (hs : StepsAt w a n)
    (hstep : ∀ (B : Nat → Prop) (w : World) (bg bl lc : Nat) (bp : Nat → Nat) (ss : Nat → Pr) (Fs : Nat → Nat → Prop) (pv : Value) (mds : List Mk) (count t : Nat) (H : List Ope) (G : GSt B w bg bl lc bp ss Fs pv mds count) (O : GOk t H ss count) (hH : (mds.map Mk.o).reverse = H) (ht : t ≤ 300) (hB : ∀ b, w.heap.size ≤ b → B b)
      (kind peer at_ which : Int) (hki : i64ok kind) (hpe : i64ok peer) (hat : i64ok at_) (hwh : i64ok which),
      Calls Try.prog 19 #[.pointer (some ⟨bg, 0, none⟩), .agg #[.int .i64 kind, .int .i64 peer, .int .i64 at_, .int .i64 which]] w fun e' w' => e' = .returned (.bool true) ∧ Kept B w w' ∧ ∃ (ss' : Nat → Pr) (Fs' : Nat → Nat → Prop) (pv' : Value) (mds' : List Mk) (count' : Nat), Caused B w' bg bl lc bp ss (pickN peer 3).toNat t kind which ss' Fs' pv' mds' count') :
    Calls Try.prog 7 #[.slice a n cap] w fun e' w' => e' = .returned (.bool true) ∧ Kept (fun _ => False) w w' := by
  go_enter Try.func7, Try.ntmps7
  go_wp2_with fail
  refine (fresh_any w).mono ?_
  rintro e1 w1 ⟨bg, bl, lc, bp, Fs, rfl, G1, hk1⟩
  go_wp2
  go_loopw [4] (fun i wr => ∃ (k : Nat) (ss : Nat → Pr) (Fs : Nat → Nat → Prop) (pv : Value) (mds : List Mk) (count : Nat), k ≤ n ∧ k ≤ 60 ∧ i = .int .i64 k ∧ GSt (fun b => w.heap.size ≤ b) wr bg bl lc bp ss Fs pv mds count ∧ GOk k ((mds.map Mk.o).reverse) ss count ∧ Kept (fun _ => False) w wr) (fun i _ => 60 - (intOf i).toNat)
  case atStart => exact ⟨0, stNew, Fs, _, [], 0, Nat.zero_le _, Nat.zero_le _, rfl, G1, GOk.start, hk1⟩
  case round =>
    clear G1
    obtain ⟨k, ss, Fs, pv, mds, count, hkn, hk60, rfl, G, O, hK⟩ := hrel
    obtain ⟨wo, hwo⟩ : ∃ wo : World, wo = wr := ⟨_, rfl⟩
    subst hwo
    by_cases hlt : k < n ∧ k < 60
    · obtain ⟨hlt1, hlt2⟩ := hlt
      have hd1 : decide ((k : Int) < (n : Int)) = true := by rw [decide_eq_true_iff]; omega
      have hd2 : decide ((k : Int) < 60) = true := by rw [decide_eq_true_iff]; omega
      have hd3 : (k : Int) < (n : Int) := by omega
      have hd4 : (k : Int) < 60 := by omega
      obtain ⟨b, off, kd, pe, at_, wh, rfl, s0, s1, s2, s3, r0, r1, r2, r3⟩ := (hs.kept hK) k hlt1
      obtain ⟨p, hp⟩ : ∃ p : Nat, pickN pe 3 = p := by
        have := pickN_lo pe 3 (by decide)
        exact ⟨(pickN pe 3).toNat, by omega⟩
      have hp3 : p < 3 := by have := pickN_hi pe 3 (by decide); omega
      have HP : Hid (pickN pe 3 = (p : Int)) := hp
      clear hp
      go_wp2_with fail
      refine (kpick_any pe 3 _ (by decide) (by decide) r1.1 r1.2).mono ?_
      rintro e2 w2 ⟨rfl, rfl⟩
      rw [HP.out]
      obtain ⟨W, hW⟩ : ∃ W, W = wo.alloc (.cells #[.int .i64 kd, .int .i64 pe, .int .i64 at_, .int .i64 wh] 31) := ⟨_, rfl⟩
      have hkW : Kept (fun _ => False) wo W := by rw [hW]; exact (Kept.refl _ wo).alloc _
      have hsb : W.heap[wo.heap.size]? = some (.cells #[.int .i64 kd, .int .i64 pe, .int .i64 at_, .int .i64 wh] 31 (0, 0)) := by rw [hW]; exact heap_alloc_new wo _
      rw [← hW]
      clear hW
      have GW := G.quiet hkW
      have c0 : W.cell? ⟨bg, 0, none⟩ = some (.slice (some ⟨bl, 0, none⟩) 3 lc) := by rw [Lib.cell_of_heap GW.block]; rfl
      have cz := lt_of_heap GW.block
      obtain ⟨cur, hl1, hl2⟩ := GW.list
      have cl : W.cell? ⟨bl, p, none⟩ = some (.pointer (some ⟨bp p, 0, none⟩)) := by rw [Lib.cell_of_heap hl1]; exact hl2 p hp3
      have lz := lt_of_heap hl1
      have hp3i : (p : Int) < 3 := by omega
      have hka := known_pm (ss p) 3 (bp p) (Fs p) W (GW.peers p hp3) (O.fit p hp3)
      clear s0 s1 s2 s3 hl1 hl2
      go_wp2_with fail
      refine hka.mono ?_
      rintro e3 w3 ⟨rfl, hca, hk3⟩
      have hsb3 := hk3.heap hsb (fun h => h)
      have t0 : w3.cell? ⟨wo.heap.size, 0, none⟩ = some (.int .i64 kd) := by rw [Lib.cell_of_heap hsb3]; rfl
      have t1 : w3.cell? ⟨wo.heap.size, 1, none⟩ = some (.int .i64 pe) := by rw [Lib.cell_of_heap hsb3]; rfl
      have t2 : w3.cell? ⟨wo.heap.size, 2, none⟩ = some (.int .i64 at_) := by rw [Lib.cell_of_heap hsb3]; rfl
      have t3 : w3.cell? ⟨wo.heap.size, 3, none⟩ = some (.int .i64 wh) := by rw [Lib.cell_of_heap hsb3]; rfl
      have tz := lt_of_heap hsb3
      have hWz := lt_of_heap hsb
      have hca3 := lt_of_heap hca
      have hst := hstep (fun b => w.heap.size ≤ b ∧ (b < wo.heap.size ∨ w3.heap.size ≤ b)) w3 bg bl lc bp ss Fs pv mds count k _ (((G.old w3.heap.size).quiet hkW).quiet hk3) O rfl (by omega) (fun b hb => ⟨Nat.le_trans hK.size (Nat.le_trans hkW.size (Nat.le_trans hk3.size hb)), Or.inr hb⟩) kd pe at_ wh r0 r1 r2 r3
      have hpN : (pickN pe 3).toNat = p := by rw [HP.out]; exact Int.toNat_natCast p
      rw [hpN] at hst
      have HO : Hid (GOk k ((mds.map Mk.o).reverse) ss count) := O
      have HK3 : Hid (Kept (fun _ => False) w w3) := (hK.trans' hkW).trans' hk3
      clear hka G GW O hpN c0 cl cz lz
      go_wp2_with fail
      refine hst.mono ?_
      rintro e4 w4 ⟨rfl, hk4, ss', Fs', pv', mds', count', G4, O4, hB4⟩
      have hns : ¬ (w.heap.size ≤ wo.heap.size ∧ (wo.heap.size < wo.heap.size ∨ w3.heap.size ≤ wo.heap.size)) := by omega
      have hnw : ¬ (w.heap.size ≤ W.heap.size ∧ (W.heap.size < wo.heap.size ∨ w3.heap.size ≤ W.heap.size)) := by omega
      have hsb4 := hk4.heap hsb3 hns
      have hca4 := hk4.heap hca hnw
      have hK4 : Kept (fun _ => False) w w4 := HK3.out.trans hk4 (fun i hi h => by have h' := h.1; omega)
      have c0 : w4.cell? ⟨bg, 0, none⟩ = some (.slice (some ⟨bl, 0, none⟩) 3 lc) := by rw [Lib.cell_of_heap G4.block]; rfl
      have cz := lt_of_heap G4.block
      obtain ⟨cur, hl1, hl2⟩ := G4.list
      have cl : w4.cell? ⟨bl, p, none⟩ = some (.pointer (some ⟨bp p, 0, none⟩)) := by rw [Lib.cell_of_heap hl1]; exact hl2 p hp3
      have lz := lt_of_heap hl1
      have hkb := known_pm (ss' p) 3 (bp p) (Fs' p) w4 (G4.peers p hp3) (O4.fit p hp3)
      clear hst hk4 hns hnw t0 t1 t2 t3 tz hsb hsb3 hca hl1 hl2
      go_wp2_with fail
      refine hkb.mono ?_
      rintro e5 w5 ⟨rfl, hcn, hk5⟩
      rw [(O4.fit p hp3).len]
      have G5 := (G4.quiet hk5).mono (B' := fun b => w.heap.size ≤ b) (fun b h => h.1)
      have hsb5 := hk5.heap hsb4 (fun h => h)
      have hca5 := hk5.heap hca4 (fun h => h)
      have hK5 := hK4.trans' hk5
      have HO4 : Hid (GOk (k + 1) ((mds'.map Mk.o).reverse) ss' count') := O4
      have HB4 : Hid _ := hB4
      obtain ⟨apv, cpv, hpv, _, hpvc⟩ := own_slice G5.packets
      subst hpv
      have HG5 : Hid (GSt (fun b => w.heap.size ≤ b) w5 bg bl lc bp ss' Fs' (.slice apv mds'.length cpv) mds' count') := G5
      have HK5 : Hid (Kept (fun _ => False) w w5) := hK5
      have d1 : w5.cell? ⟨bg, 1, none⟩ = some (.slice apv mds'.length cpv) := by rw [Lib.cell_of_heap G5.block]; rfl
      have dz := lt_of_heap G5.block
      have hml : mds'.length ≤ 61 := by
        have := O4.len
        rw [List.length_reverse, List.length_map] at this
        omega
      have HSB : Hid (w5.heap[wo.heap.size]? = some (.cells #[.int .i64 kd, .int .i64 pe, .int .i64 at_, .int .i64 wh] 31 (0, 0))) := hsb5
      have HCA : Hid (w5.heap[W.heap.size]? = some (.cells (i64s (ss p).known) 3 (0, 0))) := hca5
      have HCN : Hid (w5.heap[w4.heap.size]? = some (.cells (i64s (ss' p).known) 3 (0, 0))) := hcn
      have hkn2 : (ss p).known.length = 3 := (HO.out.fit p hp3).len
      clear hkb G4 O4 hB4 G5 hsb4 hsb5 hca4 hca5 hcn hK4 hK5 c0 cl cz lz hk5 hK hkW hk3
      go_wp2
      go_loopw [10] (fun mv wm => ∃ m' : Nat, m' ≤ mds'.length ∧ mv = .int .i64 m' ∧ Kept (fun _ => False) w5 wm) (fun mv _ => mds'.length - (intOf mv).toNat)
      case atStart => exact ⟨0, by omega, rfl, Kept.refl _ _⟩
      case round =>
        obtain ⟨m', hm', rfl, hKm⟩ := hrel
        by_cases hml2 : m' < mds'.length
        · have hml3 : (m' : Int) < (mds'.length : Int) := by omega
          obtain ⟨md, hmd⟩ : ∃ m, mds'[m']? = some m := ⟨_, List.getElem?_eq_getElem hml2⟩
          obtain ⟨gp, curp, rfl, hgp, htkp⟩ : ∃ gp curp, apv = some ⟨gp, 0, none⟩ ∧ w5.heap[gp]? = some (.cells curp 51 (0, 0)) ∧ curp.toList.take (mds'.length * 4) = madesCells mds' := by
            rcases HG5.out.packets.2 with ⟨e, h0⟩ | ⟨g, cap, cur, e, _, hg, _, _, _, htk⟩
            · omega
            · injection e with x1 x2 x3
              exact ⟨g, cur, x1, hg, htk⟩
          have hcell : ∀ j, j < 4 → ∀ v, md.cells[j]? = some v → w5.cell? ⟨gp, m' * 4 + j, none⟩ = some v := fun j hj v hv => by
            have h1 := madesCells_at mds' m' md hmd j hj
            rw [hv, ← htkp, List.getElem?_take] at h1
            split at h1
            · rw [Lib.cell_of_heap hgp, ← Array.getElem?_toList]; exact h1
            · cases h1
          have hmH : md.o ∈ (mds'.map Mk.o).reverse := by simp; exact ⟨md, List.mem_of_getElem? hmd, rfl⟩
          have hR := HO4.out.right md.o hmH
          have x0 := hKm.cell' (hcell 0 (by decide) _ rfl) (fun h => h)
          have x1 := hKm.cell' (hcell 1 (by decide) _ rfl) (fun h => h)
          have x2 := hKm.cell' (hcell 2 (by decide) _ rfl) (fun h => h)
          have x3 := hKm.cell' (hcell 3 (by decide) _ rfl) (fun h => h)
          rw [Nat.add_zero] at x0
          rw [hR.seen] at x3
          have xz := Nat.lt_of_lt_of_le (lt_of_heap hgp) hKm.size
          have d1m := hKm.cell' d1 (fun h => h)
          have dzm := Nat.lt_of_lt_of_le dz hKm.size
          have hpr := hR.peer
          have hpri : (md.o.peer : Int) < 3 := by omega
          obtain ⟨kq, hkq⟩ : ∃ kq, (ss' p).known[md.o.peer]? = some kq := ⟨_, List.getElem?_eq_getElem (by rw [(HO4.out.fit p hp3).len]; exact hpr)⟩
          have hkq2 : (ss' p).k md.o.peer = kq := by unfold Pr.k; rw [List.getD_eq_getElem?_getD, hkq]; rfl
          have n0 : wr.cell? ⟨w4.heap.size, md.o.peer, none⟩ = some (.int .i64 (kq : Int)) := by rw [Lib.cell_of_heap (hKm.heap HCN.out (fun h => h)), i64s_at, hkq]; rfl
          have nz : w4.heap.size < wr.heap.size := Nat.lt_of_lt_of_le (lt_of_heap HCN.out) hKm.size
          obtain ⟨PK, hPK⟩ : ∃ PK : ByteArray, (⟨md.o.packet.toArray⟩ : ByteArray) = PK := ⟨_, rfl⟩
          rw [hPK] at x0
          have HMD : Hid (mds'[m']? = some md) := hmd
          have HKQ : Hid ((ss' p).k md.o.peer = kq) := hkq2
          clear hPK hcell hgp htkp hmd hkq hkq2
          by_cases hc : kq < md.o.num
          · have hci : (kq : Int) < (md.o.num : Int) := by omega
            go_wp2
            go_quiet (fail)
            go_wp2
            go_roundw
            case rel => exact ⟨m' + 1, by omega, by go_num, (hKm.alloc _).drewN _⟩
            case measure => simp [intOf]; omega
          · have hci : ¬ (kq : Int) < (md.o.num : Int) := by omega
            obtain ⟨cu, hu1, hu2⟩ := HG5.out.knows md (List.mem_of_getElem? HMD.out)
            have HU : Hid (w5.heap[md.kb]? = some (.cells cu 3 (0, 0)) ∧ ∀ (i n : Nat), md.o.seen[i]? = some n → cu[i]? = some (.int .i64 (n : Int))) := ⟨hu1, hu2⟩
            have HOB : Hid ((wr.alloc (.cells #[.string PK, .int .i64 md.o.peer, .int .i64 md.o.num, .slice (some ⟨md.kb, 0, none⟩) 3 md.kc] 51)).heap[wr.heap.size]? = some (.cells #[.string PK, .int .i64 md.o.peer, .int .i64 md.o.num, .slice (some ⟨md.kb, 0, none⟩) 3 md.kc] 51 (0, 0))) := heap_alloc_new wr _
            have HKX : Hid (Kept (fun _ => False) w5 (wr.alloc (.cells #[.string PK, .int .i64 md.o.peer, .int .i64 md.o.num, .slice (some ⟨md.kb, 0, none⟩) 3 md.kc] 51))) := hKm.alloc _
            clear hu1 hu2
            go_wp2
            go_quiet (fail)
            go_wp2
            go_loopw [12] (fun jv wj => ∃ j' : Nat, j' ≤ 3 ∧ jv = .int .i64 j' ∧ Kept (fun _ => False) (wr.alloc (.cells #[.string PK, .int .i64 md.o.peer, .int .i64 md.o.num, .slice (some ⟨md.kb, 0, none⟩) 3 md.kc] 51)) wj) (fun jv _ => 3 - (intOf jv).toNat)
            case atStart => exact ⟨0, by omega, rfl, (Kept.refl _ _).drewN _⟩
            case round =>
              obtain ⟨j', hj3, rfl, hKj⟩ := hrel
              by_cases hj : j' < 3
              · have hji : (j' : Int) < 3 := by omega
                have hKj5 := HKX.out.trans' hKj
                obtain ⟨kn, hkn1⟩ : ∃ kn, (ss' p).known[j']? = some kn := ⟨_, List.getElem?_eq_getElem (by rw [(HO4.out.fit p hp3).len]; exact hj)⟩
                obtain ⟨sj, hsj⟩ : ∃ sj, md.o.seen[j']? = some sj := ⟨_, List.getElem?_eq_getElem (by rw [hR.seen]; exact hj)⟩
                have hle : sj ≤ kn := by
                  have := (HO4.out.ok p hp3).1.view.causal md.o hmH (by rw [HKQ.out]; omega) j'
                  unfold sn Pr.k at this
                  rw [List.getD_eq_getElem?_getD, List.getD_eq_getElem?_getD, hsj, hkn1] at this
                  exact this
                have f0 : wr.cell? ⟨w4.heap.size, j', none⟩ = some (.int .i64 (kn : Int)) := by rw [Lib.cell_of_heap (hKj5.heap HCN.out (fun h => h)), i64s_at, hkn1]; rfl
                have f1 := (Lib.cell_of_heap (hKj.heap HOB.out (fun h => h)) 3).trans (rfl : _ = some _)
                have f1z := lt_of_heap (hKj.heap HOB.out (fun h => h))
                have f2z := lt_of_heap (hKj5.heap HU.out.1 (fun h => h))
                have f0z := lt_of_heap (hKj5.heap HCN.out (fun h => h))
                have f2 : wr.cell? ⟨md.kb, j', none⟩ = some (.int .i64 (sj : Int)) := by rw [Lib.cell_of_heap (hKj5.heap HU.out.1 (fun h => h))]; exact HU.out.2 j' sj hsj
                have hlei : ¬ (kn : Int) < (sj : Int) := by omega
                clear hkn1 hsj hle x0 x1 x2 x3 n0 d1m
                go_wp2
                go_quiet (fail)
                go_wp2
                go_roundw
                case rel => exact ⟨j' + 1, by omega, by go_num, hKj.drewN _⟩
                case measure => simp [intOf]; omega
              · go_wp2
                go_roundw
                case rel => exact ⟨m' + 1, by omega, by go_num, (hKm.alloc _).trans' hKj⟩
                case measure => simp [intOf]; omega
        · have hml3 : ¬ (m' : Int) < (mds'.length : Int) := by omega
          have d1m := hKm.cell' d1 (fun h => h)
          have dzm := Nat.lt_of_lt_of_le dz hKm.size
          have s0 := (Lib.cell_of_heap (hKm.heap HSB.out (fun h => h)) 0).trans (rfl : _ = some _)
          have s3 := (Lib.cell_of_heap (hKm.heap HSB.out (fun h => h)) 3).trans (rfl : _ = some _)
          have sz := lt_of_heap (hKm.heap HSB.out (fun h => h))
          clear d1 dz
          go_wp2_with fail
          refine (kpick_any kd 8 wr (by decide) (by decide) r0.1 r0.2).mono ?_
          rintro e6 w6 ⟨rfl, hw6⟩
          obtain rfl : wr = w6 := hw6.symm
          obtain ⟨PV, hPV⟩ : ∃ PV, pickN kd 8 = PV := ⟨_, rfl⟩
          have HPV : Hid (pickN kd 8 = PV) := hPV
          rw [hPV]
          clear hPV
          by_cases hlt5 : PV < 5
          · go_wp2
            go_roundw
            case rel => exact ⟨k + 1, ss', Fs', _, mds', count', by omega, by omega, by go_num, HG5.out.quiet hKm, HO4.out, HK5.out.trans' hKm⟩
            case measure => simp [intOf]; omega
          · have HL5 : Hid (¬ PV < 5) := hlt5
            by_cases hm0 : mds'.length = 0
            · rw [hm0] at d1m
              go_wp2
              go_roundw
              case rel => exact ⟨k + 1, ss', Fs', _, mds', count', by omega, by omega, by go_num, HG5.out.quiet hKm, HO4.out, HK5.out.trans' hKm⟩
              case measure => simp [intOf]; omega
            · have hm0i : ((mds'.length : Int) == 0) = false := by simp; exact fun h => hm0 (by rw [h]; rfl)
              have hm0j : ¬ (mds'.length : Int) = 0 := by omega
              have pl := pickN_lo wh (mds'.length : Int) (by omega)
              have ph := pickN_hi wh (mds'.length : Int) (by omega)
              obtain ⟨i, hi⟩ : ∃ i : Nat, pickN wh (mds'.length : Int) = i := ⟨(pickN wh (mds'.length : Int)).toNat, by omega⟩
              have hil : i < mds'.length := by omega
              have HI : Hid (pickN wh (mds'.length : Int) = (i : Int)) := hi
              have hkp : ∀ W' : World, Calls Try.prog 13 #[.int .i64 wh, .int .i64 (mds'.length : Int)] W' fun e' w' => e' = .returned (.int .i64 (i : Int)) ∧ w' = W' := fun W' => by
                have := kpick_any wh (mds'.length : Int) W' (by omega) (by omega) r3.1 r3.2
                rw [hi] at this; exact this
              clear pl ph hi
              obtain ⟨md, hmd⟩ : ∃ m, mds'[i]? = some m := ⟨_, List.getElem?_eq_getElem hil⟩
              obtain ⟨gp, curp, rfl, hgp, htkp⟩ : ∃ gp curp, apv = some ⟨gp, 0, none⟩ ∧ w5.heap[gp]? = some (.cells curp 51 (0, 0)) ∧ curp.toList.take (mds'.length * 4) = madesCells mds' := by
                rcases HG5.out.packets.2 with ⟨e, h0⟩ | ⟨g, cap, cur, e, _, hg, _, _, _, htk⟩
                · omega
                · injection e with x1 x2 x3
                  exact ⟨g, cur, x1, hg, htk⟩
              have hcell : ∀ j, j < 4 → ∀ v, md.cells[j]? = some v → w5.cell? ⟨gp, i * 4 + j, none⟩ = some v := fun j hj v hv => by
                have h1 := madesCells_at mds' i md hmd j hj
                rw [hv, ← htkp, List.getElem?_take] at h1
                split at h1
                · rw [Lib.cell_of_heap hgp, ← Array.getElem?_toList]; exact h1
                · cases h1
              have hmH : md.o ∈ (mds'.map Mk.o).reverse := by simp; exact ⟨md, List.mem_of_getElem? hmd, rfl⟩
              have hR := HO4.out.right md.o hmH
              have x0 := hKm.cell' (hcell 0 (by decide) _ rfl) (fun h => h)
              have x1 := hKm.cell' (hcell 1 (by decide) _ rfl) (fun h => h)
              have x2 := hKm.cell' (hcell 2 (by decide) _ rfl) (fun h => h)
              have x3 := hKm.cell' (hcell 3 (by decide) _ rfl) (fun h => h)
              rw [Nat.add_zero] at x0
              rw [hR.seen] at x3
              have xz := Nat.lt_of_lt_of_le (lt_of_heap hgp) hKm.size
              have hili : (i : Int) < (mds'.length : Int) := by omega
              obtain ⟨PK, hPK⟩ : ∃ PK : ByteArray, (⟨md.o.packet.toArray⟩ : ByteArray) = PK := ⟨_, rfl⟩
              rw [hPK] at x0
              have HMD : Hid (mds'[i]? = some md) := hmd
              obtain ⟨cu, hu1, hu2⟩ := HG5.out.knows md (List.mem_of_getElem? HMD.out)
              have HU : Hid (w5.heap[md.kb]? = some (.cells cu 3 (0, 0)) ∧ ∀ (i n : Nat), md.o.seen[i]? = some n → cu[i]? = some (.int .i64 (n : Int))) := ⟨hu1, hu2⟩
              clear hPK hcell hgp htkp hmd hu1 hu2
              go_wp2_with fail
              go_cut [13] (fun ov wc => ov = .pointer (some ⟨wr.heap.size, 0, none⟩) ∧ Kept (fun _ => False) wr wc ∧ wc.heap[wr.heap.size]? = some (.cells #[.string PK, .int .i64 md.o.peer, .int .i64 md.o.num, .slice (some ⟨md.kb, 0, none⟩) 3 md.kc] 51 (0, 0)))
              case first =>
                refine wp_region_four 14 14 1 ((wr.alloc (.cells #[.string ⟨#[]⟩, .int .i64 0, .int .i64 0, .slice none 0 0] 51)).drew) (.pointer (some ⟨wr.heap.size, 0, none⟩)) (by kernel_rfl) (by kernel_rfl) rfl ?_
                simp only [List.take_succ_cons, List.take_zero, List.drop_succ_cons, List.drop_zero]
                change wpTwo _ _ (World.drew _) _ _ _ _
                refine two_next (.pointer (some ⟨bg, 0, none⟩)) rfl (fun K hK => ?_) (fun K hK => ?_)
                case' refine_2 => go_simp; exact hK _ rfl
                go_simp
                refine hK _ rfl ?_
                clear hK K
                refine two_next (.pointer (some ⟨bg, 0, none⟩)) rfl (fun K hK => ?_) (fun K hK => ?_)
                case' refine_2 => go_simp; exact hK _ rfl
                go_simp
                refine hK _ rfl ?_
                clear hK K
                refine two_next (.pointer (some ⟨bg, 1, none⟩)) rfl (fun K hK => ?_) (fun K hK => ?_)
                case' refine_2 => go_simp; exact hK _ rfl
                go_simp
                refine hK _ rfl ?_
                clear hK K
                refine two_next (.slice (some ⟨gp, 0, none⟩) mds'.length cpv) rfl (fun K hK => ?_) (fun K hK => ?_)
                case' refine_2 => go_simp; exact hK _ rfl
                go_simp
                refine hK _ rfl ?_
                clear hK K
                refine two_next (.pointer (some ⟨wo.heap.size, 3, none⟩)) rfl (fun K hK => ?_) (fun K hK => ?_)
                case' refine_2 => go_simp; exact hK _ rfl
                go_simp
                refine hK _ rfl ?_
                clear hK K
                refine two_next (.int .i64 wh) rfl (fun K hK => ?_) (fun K hK => ?_)
                case' refine_2 => go_simp; exact hK _ rfl
                go_simp
                refine hK _ rfl ?_
                clear hK K
                refine two_next (.pointer (some ⟨bg, 0, none⟩)) rfl (fun K hK => ?_) (fun K hK => ?_)
                case' refine_2 => go_simp; exact hK _ rfl
                go_simp
                refine hK _ rfl ?_
                clear hK K
                refine two_next (.pointer (some ⟨bg, 0, none⟩)) rfl (fun K hK => ?_) (fun K hK => ?_)
                case' refine_2 => go_simp; exact hK _ rfl
                go_simp
                refine hK _ rfl ?_
                clear hK K
                refine two_next (.pointer (some ⟨bg, 1, none⟩)) rfl (fun K hK => ?_) (fun K hK => ?_)
                case' refine_2 => go_simp; exact hK _ rfl
                go_simp
                refine hK _ rfl ?_
                clear hK K
                refine two_next (.slice (some ⟨gp, 0, none⟩) mds'.length cpv) rfl (fun K hK => ?_) (fun K hK => ?_)
                case' refine_2 => go_simp; exact hK _ rfl
                go_simp
                refine hK _ rfl ?_
                clear hK K
                refine two_next (.int .i64 (mds'.length : Int)) rfl (fun K hK => ?_) (fun K hK => ?_)
                case' refine_2 => go_simp; exact hK _ rfl
                go_simp
                refine hK _ rfl ?_
                clear hK K
                refine two_next (.int .i64 (i : Int)) rfl (fun K hK => ?_) (fun K hK => ?_)
                case' refine_2 => go_simp; exact ⟨_, hkp _, hK _ rfl⟩
                go_simp
                refine ⟨_, hkp _, hK _ rfl ?_⟩
                clear hK K
                refine two_next (.pointer (some ⟨gp, i * 4, none⟩)) rfl (fun K hK => ?_) (fun K hK => ?_)
                case' refine_2 => go_simp; exact hK _ rfl
                go_simp
                refine hK _ rfl ?_
                clear hK K
                refine two_next (.agg #[.string PK, .int .i64 md.o.peer, .int .i64 md.o.num, .slice (some ⟨md.kb, 0, none⟩) 3 md.kc]) rfl (fun K hK => ?_) (fun K hK => ?_)
                case' refine_2 => go_simp; exact hK _ rfl
                go_simp
                refine hK _ rfl ?_
                clear hK K
                refine two_nil ?_
                change wpStill _ _ (World.drew _) _ _ _
                refine wpStill_nil ⟨⟨rfl, ?_⟩, ?_⟩
                · show Sem.run _ _ (World.drew wr) = _
                  go_simp
                  try rfl
                · go_wp2_with fail
                  change wpStill _ _ _ _ _ _
                  refine wpStill_nil ?_
                  go_wp2_with fail
                  go_meet
                  exact ⟨rfl, ((Kept.refl _ wr).alloc _).drew, heap_alloc_new wr _⟩
              case rest =>
                obtain ⟨rfl, hkc, hob⟩ := hcut
                have hpr := hR.peer
                have hpri : (md.o.peer : Int) < 3 := by omega
                obtain ⟨kw, hkw⟩ : ∃ kw, (ss p).known[md.o.peer]? = some kw := ⟨_, List.getElem?_eq_getElem (by rw [hkn2]; exact hpr)⟩
                have hkw2 : (ss p).k md.o.peer = kw := by unfold Pr.k; rw [List.getD_eq_getElem?_getD, hkw]; rfl
                obtain ⟨kq, hkq⟩ : ∃ kq, (ss' p).known[md.o.peer]? = some kq := ⟨_, List.getElem?_eq_getElem (by rw [(HO4.out.fit p hp3).len]; exact hpr)⟩
                have hkq2 : (ss' p).k md.o.peer = kq := by unfold Pr.k; rw [List.getD_eq_getElem?_getD, hkq]; rfl
                have HKW : Hid ((ss p).k md.o.peer = kw) := hkw2
                have HKQ : Hid ((ss' p).k md.o.peer = kq ∧ (ss' p).known[md.o.peer]? = some kq) := ⟨hkq2, hkq⟩
                have hKc := hKm.trans' hkc
                have y1 := (Lib.cell_of_heap hob 1).trans (rfl : _ = some _)
                have y2 := (Lib.cell_of_heap hob 2).trans (rfl : _ = some _)
                have yz := lt_of_heap hob
                have q0 : wc.cell? ⟨W.heap.size, md.o.peer, none⟩ = some (.int .i64 (kw : Int)) := by rw [Lib.cell_of_heap (hKc.heap HCA.out (fun h => h)), i64s_at, hkw]; rfl
                have qz := lt_of_heap (hKc.heap HCA.out (fun h => h))
                have hn1 := hR.num.1
                have hn2 := hR.num.2
                have HOB : Hid (wc.heap[wr.heap.size]? = some (.cells #[.string PK, .int .i64 md.o.peer, .int .i64 md.o.num, .slice (some ⟨md.kb, 0, none⟩) 3 md.kc] 51 (0, 0))) := hob
                have HKC : Hid (Kept (fun _ => False) w5 wc) := hKc
                clear hkw hkw2 hkq hkq2 hob hkc hKc x0 x1 x2 x3 d1m s0 s3 hkp
                go_wp2
                go_quiet (fail)
                go_wp2
                go_loopw [14, 15] (fun rd jv wj => ∃ (j' : Nat) (r : Bool), j' ≤ 3 ∧ jv = .int .i64 j' ∧ rd = .bool r ∧ Hid (r = true → md.o.num = (ss p).k md.o.peer + 1 ∧ ∀ q, q < j' → sn md.o q ≤ (ss p).k q) ∧ Kept (fun _ => False) wc wj) (fun _ jv _ => 3 - (intOf jv).toNat)
                case atStart =>
                  refine ⟨0, _, by omega, rfl, rfl, fun h => ⟨?_, fun q hq => absurd hq (Nat.not_lt_zero _)⟩, (Kept.refl _ _).drewN _⟩
                  rw [HKW.out]
                  simp at h
                  omega
                case round =>
                  obtain ⟨j', r, hj3, rfl, rfl, hr, hKj⟩ := hrel
                  have hKj5 := HKC.out.trans' hKj
                  by_cases hj : j' < 3
                  · have hji : (j' : Int) < 3 := by omega
                    obtain ⟨kj, hkj⟩ : ∃ kj, (ss p).known[j']? = some kj := ⟨_, List.getElem?_eq_getElem (by rw [hkn2]; exact hj)⟩
                    obtain ⟨sj, hsj⟩ : ∃ sj, md.o.seen[j']? = some sj := ⟨_, List.getElem?_eq_getElem (by rw [hR.seen]; exact hj)⟩
                    have hsk : Hid (sj ≤ kj → sn md.o j' ≤ (ss p).k j') := fun h => by
                      unfold sn Pr.k
                      rw [List.getD_eq_getElem?_getD, List.getD_eq_getElem?_getD, hsj, hkj]
                      exact h
                    have f0 : wr.cell? ⟨W.heap.size, j', none⟩ = some (.int .i64 (kj : Int)) := by rw [Lib.cell_of_heap (hKj5.heap HCA.out (fun h => h)), i64s_at, hkj]; rfl
                    have f1 := (Lib.cell_of_heap (hKj.heap HOB.out (fun h => h)) 3).trans (rfl : _ = some _)
                    have f1z := lt_of_heap (hKj.heap HOB.out (fun h => h))
                    have f2 : wr.cell? ⟨md.kb, j', none⟩ = some (.int .i64 (sj : Int)) := by rw [Lib.cell_of_heap (hKj5.heap HU.out.1 (fun h => h))]; exact HU.out.2 j' sj hsj
                    have f2z := lt_of_heap (hKj5.heap HU.out.1 (fun h => h))
                    have f0z := lt_of_heap (hKj5.heap HCA.out (fun h => h))
                    clear hkj hsj y1 y2 q0
                    cases r with
                    | false =>
                      go_wp2
                      go_quiet (fail)
                      go_wp2
                      go_roundw
                      case rel => exact ⟨j' + 1, false, by omega, by go_num, rfl, fun h => (by cases h), hKj.drewN _⟩
                      case measure => simp [intOf]; omega
                    | true =>
                      have hr2 : Hid (md.o.num = (ss p).k md.o.peer + 1 ∧ ∀ q, q < j' → sn md.o q ≤ (ss p).k q) := hr.out rfl
                      clear hr
                      go_wp2
                      go_quiet (fail)
                      go_wp2
                      go_roundw
                      case rel =>
                        refine ⟨j' + 1, _, by omega, by go_num, rfl, fun h => ⟨hr2.out.1, fun q hq => ?_⟩, hKj.drewN _⟩
                        by_cases hqj : q = j'
                        · subst hqj
                          refine hsk.out ?_
                          simp at h
                          omega
                        · exact hr2.out.2 q (by omega)
                      case measure => simp [intOf]; omega
                  · have n0 : wr.cell? ⟨w4.heap.size, md.o.peer, none⟩ = some (.int .i64 (kq : Int)) := by rw [Lib.cell_of_heap (hKj5.heap HCN.out (fun h => h)), i64s_at, HKQ.out.2]; rfl
                    have nz := lt_of_heap (hKj5.heap HCN.out (fun h => h))
                    have z1 := (Lib.cell_of_heap (hKj.heap HOB.out (fun h => h)) 1).trans (rfl : _ = some _)
                    have z2 := (Lib.cell_of_heap (hKj.heap HOB.out (fun h => h)) 2).trans (rfl : _ = some _)
                    have zz := lt_of_heap (hKj.heap HOB.out (fun h => h))
                    clear y1 y2 q0
                    cases r with
                    | false =>
                      go_wp2
                      go_quiet (fail)
                      go_wp2
                      go_roundw
                      case rel => exact ⟨k + 1, ss', Fs', _, mds', count', by omega, by omega, by go_num, HG5.out.quiet (hKj5.drewN _), HO4.out, HK5.out.trans' (hKj5.drewN _)⟩
                      case measure => simp [intOf]; omega
                    | true =>
                      have hge : md.o.num ≤ kq := by
                        have h1 := hr.out rfl
                        have := HB4.out (by rw [HPV.out]; exact HL5.out) i md HI.out HMD.out h1.1 (fun q hq => h1.2 q (by omega))
                        rw [HKQ.out.1] at this
                        exact this
                      have hgei : ¬ (kq : Int) < (md.o.num : Int) := by omega
                      clear hge
                      go_wp2
                      go_quiet (fail)
                      go_wp2
                      go_roundw
                      case rel => exact ⟨k + 1, ss', Fs', _, mds', count', by omega, by omega, by go_num, HG5.out.quiet (hKj5.drewN _), HO4.out, HK5.out.trans' (hKj5.drewN _)⟩
                      case measure => simp [intOf]; omega
    · by_cases h1 : k < n
      · have h2 : ¬ (k : Int) < 60 := by omega
        have h3 : decide ((k : Int) < 60) = false := by rw [decide_eq_false_iff_not]; exact h2
        have h4 : (k : Int) < (n : Int) := by omega
        have h5 : ¬ k < 60 := by omega
        clear hlt
        go_wp2
        all_goals go_ret
        all_goals exact ⟨rfl, hK⟩
      · have h2 : ¬ (k : Int) < (n : Int) := by omega
        have h3 : decide ((k : Int) < (n : Int)) = false := by rw [decide_eq_false_iff_not]; exact h2
        clear hlt
        go_wp2
        all_goals go_ret
        all_goals exact ⟨rfl, hK⟩

end Go.Proofs.Ytgfafbanahiigaa
