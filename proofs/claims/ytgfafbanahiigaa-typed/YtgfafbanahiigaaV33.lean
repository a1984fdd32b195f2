import Derived.Test.YtgfafbanahiigaaV32
import Derived.Test.YtgfafbanahiigaaM14
import Derived.Test.YtgfafbanahiigaaV22
set_option linter.unusedVariables false
set_option linter.unusedSimpArgs false
namespace Go.Proofs.Ytgfafbanahiigaa
open Go.RowKit Go.Chorus

/-- A group in which these were made, in this order. -/
def Ty (w wr : World) (bg bl lc : Nat) (bp : Nat → Nat) (t : Nat) (ss : Nat → Pr) (ops : List Ope) (count : Nat) : Prop :=
  ∃ Fs pv mds, mds.map Mk.o = ops ∧ GSt (fun b => w.heap.size ≤ b) wr bg bl lc bp ss Fs pv mds count ∧ GOk t ops.reverse ss count ∧ Kept (fun _ => False) w wr

theorem Ty.quiet {w wr wr' : World} {bg bl lc : Nat} {bp : Nat → Nat} {t : Nat} {ss : Nat → Pr} {ops : List Ope} {count : Nat} (h : Ty w wr bg bl lc bp t ss ops count) (k : Kept (fun _ => False) wr wr') : Ty w wr' bg bl lc bp t ss ops count := by
  obtain ⟨Fs, pv, mds, h1, h2, h3, h4⟩ := h
  exact ⟨Fs, pv, mds, h1, h2.quiet k, h3, h4.trans' k⟩

theorem ty_ins {w wr : World} {bg bl lc : Nat} {bp : Nat → Nat} {t : Nat} {ss : Nat → Pr} {ops : List Ope} {count : Nat} (X : Ty w wr bg bl lc bp t ss ops count) (ht : t ≤ 300) (k : Nat) (hk : k < 3) (n : Nat) (hn : (liveChars (ss k).row).length = n) (tc tp : Nat) (hbh : behindOf (ss k).row (n : Int) = some (tc, tp)) (htt : ((true = true ∧ ((tc, tp) : Nm) = (0, 0)) ∨ ∃ e ∈ (ss k).row, nm e = (tc, tp)))
    (o : Ope) (ho : (ss k).makes true (tc, tp) (19968 + count) = o) :
    Calls Try.prog 24 #[.pointer (some ⟨bg, 0, none⟩), .int .i64 k, .agg #[.int .i64 0, .int .i64 0, .int .i64 n, .int .i64 0]] wr fun e' w' => e' = .returned (.bool true) ∧ Ty w w' bg bl lc bp (t + 1) (upd ss k ((ss k).deliverF o).1) (ops ++ [o]) (count + 1) := by
  obtain ⟨Fs, pv, mds, h1, G, O, K⟩ := X
  have hH : (mds.map Mk.o).reverse = ops.reverse := by rw [h1]
  refine (gwrite_ins (fun b => w.heap.size ≤ b) wr bg bl lc bp ss Fs pv mds count t _ G O hH ht (fun b hb => Nat.le_trans K.size hb) k hk n hn tc tp hbh htt).mono ?_
  rintro e' w' ⟨rfl, hk', Fs', pv', kb, kc, G', O'⟩
  rw [ho] at G' O'
  refine ⟨rfl, Fs', pv', _, ?_, G', ?_, K.trans hk' (fun i hi h => by have h' : w.heap.size ≤ i := h; omega)⟩
  · rw [List.map_append, h1]; rfl
  · rw [List.reverse_append]; exact O'

theorem ty_write0 {w wr : World} {bg bl lc : Nat} {bp : Nat → Nat} {t j : Nat} {b : Pr} (X : Ty w wr bg bl lc bp t (tyS (s0 j) b) (ops0 j) j) (ht : t ≤ 300) :
    Calls Try.prog 24 #[.pointer (some ⟨bg, 0, none⟩), .int .i64 0, .agg #[.int .i64 0, .int .i64 0, .int .i64 j, .int .i64 0]] wr fun e' w' => e' = .returned (.bool true) ∧ Ty w w' bg bl lc bp (t + 1) (tyS (s0 (j + 1)) b) (ops0 (j + 1)) (j + 1) := by
  have h := ty_ins X ht 0 (by decide) j (by show (liveChars (s0 j).row).length = j; rw [s0_live, tchars_length]) j 0 (s0_behind j) (s0_targ j) (opA j) rfl
  refine h.mono ?_
  rintro e' w' ⟨rfl, h2⟩
  have e0 : (tyS (s0 j) b) 0 = s0 j := rfl
  rw [e0, s0_write, tyS_0, ← ops0_succ] at h2
  exact ⟨rfl, h2⟩

theorem ty_write1 {w wr : World} {bg bl lc : Nat} {bp : Nat → Nat} {t L n i : Nat} {a : Pr} (X : Ty w wr bg bl lc bp t (tyS a (s1 L n i)) (opsT L n i) (L + n + i)) (ht : t ≤ 300) :
    Calls Try.prog 24 #[.pointer (some ⟨bg, 0, none⟩), .int .i64 1, .agg #[.int .i64 0, .int .i64 0, .int .i64 (L + i : Nat), .int .i64 0]] wr fun e' w' => e' = .returned (.bool true) ∧ Ty w w' bg bl lc bp (t + 1) (tyS a (s1 L n (i + 1))) (opsT L n (i + 1)) (L + n + i + 1) := by
  have h := ty_ins X ht 1 (by decide) (L + i) (by show (liveChars (s1 L n i).row).length = L + i; rw [s1_live, List.length_append, tchars_length, tchars_length]) (L + i) (if i = 0 then 0 else 1) (s1_behind L n i) (s1_targ L n i) (opB L n i) (by
    have e0 : (tyS a (s1 L n i)) 1 = s1 L n i := rfl
    rw [e0]
    unfold opB Pr.makes
    have e1 : 19968 + (L + n + i) = 19968 + L + n + i := by omega
    rw [e1]
    rfl)
  refine h.mono ?_
  rintro e' w' ⟨rfl, h2⟩
  have e0 : (tyS a (s1 L n i)) 1 = s1 L n i := rfl
  have e3 : opsT L n i ++ [opB L n i] = opsT L n (i + 1) := by unfold opsT; rw [ops1_succ, List.append_assoc]
  rw [e0, s1_write, tyS_1, e3] at h2
  exact ⟨rfl, h2⟩

theorem recvAllF_single (N : Nat) (s : Pr) (l : List UInt8) : recvAllF N s [l] = recvF N s l := by
  unfold recvAllF
  split
  · rename_i h
    show ((recvF N s l).1, (recvF N s l).2.1 + 0, (0 : Int)) = _
    rw [Nat.add_zero, ← h]
  · rfl

/-- A packet that was made is received. -/
theorem ty_recv {w wr : World} {bg bl lc : Nat} {bp : Nat → Nat} {t : Nat} {ss : Nat → Pr} {ops : List Ope} {count : Nat} (X : Ty w wr bg bl lc bp t ss ops count) (ht : t ≤ 300) (k : Nat) (hk : k < 3) (i : Nat) (o : Ope) (hi : ops[i]? = some o) :
    ∃ gp cp, wr.cell? ⟨bg, 0, none⟩ = some (.slice (some ⟨bl, 0, none⟩) 3 lc) ∧ wr.cell? ⟨bg, 1, none⟩ = some (.slice (some ⟨gp, 0, none⟩) ops.length cp) ∧ wr.cell? ⟨bl, k, none⟩ = some (.pointer (some ⟨bp k, 0, none⟩)) ∧ wr.cell? ⟨gp, i * 4, none⟩ = some (.string ⟨o.packet.toArray⟩) ∧ bg < wr.heap.size ∧ bl < wr.heap.size ∧ gp < wr.heap.size ∧ i < ops.length ∧ ops.length ≤ 300 ∧
      Calls Try.prog 23 #[.pointer (some ⟨bp k, 0, none⟩), .slice (some ⟨wr.heap.size, 0, none⟩) 1 1] ((wr.alloc (.cells #[.string ⟨o.packet.toArray⟩] 9)).drew) fun e' w' => e' = .returned (.tuple #[.int .i64 (((ss k).oneF o).2.1 : Nat), .int .i64 ((ss k).oneF o).2.2]) ∧ Ty w w' bg bl lc bp (t + 1) (upd ss k ((ss k).oneF o).1) ops count := by
  obtain ⟨Fs, pv, mds, h1, G, O, K⟩ := X
  have hlen : mds.length = ops.length := by rw [← h1, List.length_map]
  have hio : i < ops.length := (List.getElem?_eq_some_iff.1 hi).1
  obtain ⟨m, hm⟩ : ∃ m, mds[i]? = some m := ⟨_, List.getElem?_eq_getElem (by omega)⟩
  have hmo : m.o = o := by
    rw [← h1, List.getElem?_map, hm] at hi
    simpa using hi
  obtain ⟨apv, cpv, hpv, _, hpvc⟩ := own_slice G.packets
  subst hpv
  obtain ⟨gp, curp, rfl, hgp, htkp⟩ : ∃ gp curp, apv = some ⟨gp, 0, none⟩ ∧ wr.heap[gp]? = some (.cells curp 51 (0, 0)) ∧ curp.toList.take (mds.length * 4) = madesCells mds := by
    rcases G.packets.2 with ⟨e, h0⟩ | ⟨g, cap, cur, e, _, hg, _, _, _, htk⟩
    · omega
    · injection e with x1 x2 x3
      exact ⟨g, cur, x1, hg, htk⟩
  have cm : wr.cell? ⟨gp, i * 4, none⟩ = some (.string ⟨o.packet.toArray⟩) := by
    have h1 := madesCells_at mds i m hm 0 (by decide)
    rw [Lib.cell_of_heap hgp, ← Array.getElem?_toList, ← hmo]
    have h2 : (curp.toList.take (mds.length * 4))[i * 4]? = some (.string ⟨m.o.packet.toArray⟩) := by rw [htkp]; exact h1
    rw [List.getElem?_take] at h2
    split at h2
    · exact h2
    · cases h2
  obtain ⟨cur, hl1, hl2⟩ := G.list
  have hol : ops.length ≤ 300 := by
    have h2 := O.len
    rw [List.length_reverse] at h2
    omega
  refine ⟨gp, cpv, by rw [Lib.cell_of_heap G.block]; rfl, by rw [Lib.cell_of_heap G.block, ← hlen]; rfl, by rw [Lib.cell_of_heap hl1]; exact hl2 k hk, cm, lt_of_heap G.block, lt_of_heap hl1, lt_of_heap hgp, hio, hol, ?_⟩
  have hoH : o ∈ ops.reverse := by rw [List.mem_reverse]; exact List.mem_of_getElem? hi
  have hR := O.right o hoH
  obtain ⟨W2, hW2⟩ : ∃ W2, W2 = (wr.alloc (.cells #[.string ⟨o.packet.toArray⟩] 9)).drew := ⟨_, rfl⟩
  have hk2 : Kept (fun _ => False) wr W2 := by rw [hW2]; exact ((Kept.refl _ wr).alloc _).drew
  have hb2 : W2.heap[wr.heap.size]? = some (.cells #[.string ⟨o.packet.toArray⟩] 9 (0, 0)) := by rw [hW2]; exact heap_alloc_new wr _
  have hrc := receive_any (ss k) 3 (bp k) (Fs k) [o.packet] (some ⟨wr.heap.size, 0, none⟩) 1 W2 ((G.peers k hk).quiet hk2) (O.fit k hk) (by have := O.size k hk; simp; omega)
    (fun _ => ⟨wr.heap.size, rfl, fun q l hq => by
      cases q with
      | zero => simp at hq; subst hq; rw [Lib.cell_of_heap hb2]; rfl
      | succ q => simp at hq⟩)
    (fun ad had hf => by cases had; have := (G.peers k hk).lt _ hf; exact absurd this (Nat.lt_irrefl _))
  rw [recvAllF_single, recvF_packet hR] at hrc
  obtain ⟨O2, q⟩ := O.hear hk hoH
  rw [← hW2]
  refine hrc.mono ?_
  rintro e' w' ⟨rfl, hT⟩
  obtain ⟨Fs', G6, K6, _⟩ := (G.quiet hk2).turn (fun b hb => Nat.le_trans K.size (Nat.le_trans hk2.size hb)) hk hT
  exact ⟨rfl, Fs', _, mds, h1, G6, O2, (K.trans' hk2).trans K6 (fun i hi h => by have h' : w.heap.size ≤ i := h; omega)⟩

/-- Three lists of characters that are being written. -/
structure R3 (W w : World) (v : Nat → Value) (l : Nat → List Int) : Prop where
  at_ : ∀ j, j < 3 → RunesAt w (v j) (l j)
  apart : ∀ j k, j < 3 → k < 3 → j ≠ k → ∀ b, (v j).ownBlock = some b → (v k).ownBlock ≠ some b
  new : ∀ j, j < 3 → ∀ b, (v j).ownBlock = some b → W.heap.size ≤ b
  kept : Kept (fun _ => False) W w

theorem R3.add {W w w' : World} {v : Nat → Value} {l : Nat → List Int} (h : R3 W w v l) (k : Nat) (hk : k < 3) (c : Int) (v' : Value) (hr : RunesAt w' v' (l k ++ [c])) (hkp : Kept (fun b => (v k).ownBlock = some b) w w') (hnb : ∀ b, v'.ownBlock = some b → (v k).ownBlock = some b ∨ w.heap.size ≤ b) :
    R3 W w' (upd v k v') (upd l k (l k ++ [c])) := by
  have hlt : ∀ j, j < 3 → ∀ b, (v j).ownBlock = some b → b < w.heap.size := fun j hj b hb => ((h.at_ j hj).lt b hb).2
  refine ⟨fun j hj => ?_, fun i j hi hj hij b hb => ?_, fun j hj b hb => ?_, h.kept.trans hkp (fun i hi hb => ?_)⟩
  · by_cases hjk : j = k
    · subst hjk; rw [upd_same, upd_same]; exact hr
    · rw [upd_other _ _ _ _ hjk, upd_other _ _ _ _ hjk]
      exact (h.at_ j hj).kept hkp (fun b hb hb2 => h.apart j k hj hk hjk b hb hb2)
  · by_cases hik : i = k
    · subst hik
      rw [upd_same] at hb
      rw [upd_other _ _ _ _ (fun e => hij e.symm)]
      rcases hnb b hb with h1 | h1
      · exact h.apart i j hi hj hij b h1
      · intro h2
        have := hlt j hj b h2
        omega
    · rw [upd_other _ _ _ _ hik] at hb
      by_cases hjk : j = k
      · subst hjk
        rw [upd_same]
        intro h2
        rcases hnb b h2 with h1 | h1
        · exact h.apart i j hi hj hij b hb h1
        · have := hlt i hi b hb
          omega
      · rw [upd_other _ _ _ _ hjk]; exact h.apart i j hi hj hij b hb
  · by_cases hjk : j = k
    · subst hjk
      rw [upd_same] at hb
      rcases hnb b hb with h1 | h1
      · exact h.new j hj b h1
      · exact Nat.le_trans h.kept.size h1
    · rw [upd_other _ _ _ _ hjk] at hb; exact h.new j hj b hb
  · have := h.new k hk i hb
    omega

theorem tchars_ok (ch n : Nat) (h : ch + n ≤ 55296) : ∀ c ∈ tchars ch n, okRune c := by
  intro c hc
  obtain ⟨i, hi, rfl⟩ := List.mem_map.1 hc
  have := List.mem_range.1 hi
  unfold okRune
  omega

theorem str_add3 (w : World) (a b : List UInt8) (h : a.length + b.length ≤ 9223372036854775807) : (Op.stringOp .add ⟨a.toArray⟩ ⟨b.toArray⟩).run Try.prog w = .ok (.string ⟨(a ++ b).toArray⟩) w := by
  rw [run_string_add_sum]
  · rw [ByteArray.mk_append_mk]
  · exact h

theorem ty_cells {w wr : World} {bg bl lc : Nat} {bp : Nat → Nat} {t : Nat} {ss : Nat → Pr} {ops : List Ope} {count : Nat} (X : Ty w wr bg bl lc bp t ss ops count) :
    wr.cell? ⟨bg, 0, none⟩ = some (.slice (some ⟨bl, 0, none⟩) 3 lc) ∧ wr.cell? ⟨bg, 2, none⟩ = some (.int .i64 count) ∧ (∀ k, k < 3 → wr.cell? ⟨bl, k, none⟩ = some (.pointer (some ⟨bp k, 0, none⟩))) ∧ bg < wr.heap.size ∧ bl < wr.heap.size ∧ (∃ a cp, wr.cell? ⟨bg, 1, none⟩ = some (.slice a ops.length cp)) := by
  obtain ⟨Fs, pv, mds, h1, G, O, K⟩ := X
  obtain ⟨cur, hl1, hl2⟩ := G.list
  obtain ⟨apv, cpv, hpv, _, hpvc⟩ := own_slice G.packets
  subst hpv
  refine ⟨by rw [Lib.cell_of_heap G.block]; rfl, by rw [Lib.cell_of_heap G.block]; rfl, fun k hk => by rw [Lib.cell_of_heap hl1]; exact hl2 k hk, lt_of_heap G.block, lt_of_heap hl1, apv, cpv, ?_⟩
  rw [Lib.cell_of_heap G.block, ← h1, List.length_map]; rfl

theorem ty_text {w wr : World} {bg bl lc : Nat} {bp : Nat → Nat} {t : Nat} {ss : Nat → Pr} {ops : List Ope} {count : Nat} (X : Ty w wr bg bl lc bp t ss ops count) (ht : t ≤ 300) (k : Nat) (hk : k < 3) :
    Calls Try.prog 17 #[.pointer (some ⟨bp k, 0, none⟩)] wr fun e' w' => e' = .returned (.string ⟨(textBytes (ss k).row).toArray⟩) ∧ Kept (fun _ => False) wr w' := by
  obtain ⟨Fs, pv, mds, h1, G, O, K⟩ := X
  exact text_pm (ss k) (bp k) (Fs k) wr (G.peers k hk) (by have := O.size k hk; unfold psize at this; omega) (O.fit k hk).row

theorem ty_start {w w1 : World} {bg bl lc : Nat} {bp : Nat → Nat} {Fs : Nat → Nat → Prop} (G1 : GSt (fun b => w.heap.size ≤ b) w1 bg bl lc bp stNew Fs (.slice none 0 0) [] 0) (hk1 : Kept (fun _ => False) w w1) : Ty w w1 bg bl lc bp 0 (tyS (s0 0) (s1 0 0 0)) (ops0 0) 0 := by
  rw [← tyS_new 0]
  exact ⟨Fs, _, [], rfl, G1, GOk.start, hk1⟩

/-- The first one receives the i-th of all: no error. -/
theorem ty_turn0 (L n m i : Nat) (b : Pr) (hn : 0 < n) (hi : i < L + n + m) (o : Ope) (ho : (opsT L n m)[i]? = some o) : ∃ d : Nat, ((tyS (t0 L n (i - (L + n))) b) 0).oneF o = (t0 L n (i + 1 - (L + n)), d, 0) := t0_step L n m i hn hi o ho

/-- The other one receives whatever: no error but that it waits. -/
theorem ty_which {w wr : World} {bg bl lc : Nat} {bp : Nat → Nat} {t : Nat} {ss : Nat → Pr} {ops : List Ope} {count : Nat} (X : Ty w wr bg bl lc bp t ss ops count) (k : Nat) (hk : k < 3) (o : Ope) (ho : o ∈ ops) : ((ss k).oneF o).2.2 = 0 ∨ ((ss k).oneF o).2.2 = 5 := by
  obtain ⟨Fs, pv, mds, h1, G, O, K⟩ := X
  obtain ⟨_, q⟩ := O.hear hk (o := o) (by rw [List.mem_reverse]; exact ho)
  rcases q.which with h | ⟨h, _⟩
  · exact Or.inl h
  · exact Or.inr h

/-- In the order in which they were made: no error, and it is known then. -/
theorem ty_inturn {w wr : World} {bg bl lc : Nat} {bp : Nat → Nat} {t : Nat} {ss : Nat → Pr} {ops : List Ope} {count : Nat} (X : Ty w wr bg bl lc bp t ss ops count) (k : Nat) (hk : k < 3) (i : Nat) (o : Ope) (ho : ops[i]? = some o) (hb : ∀ j q, j < i → ops[j]? = some q → q.num ≤ (ss k).k q.peer) :
    ((ss k).oneF o).2.2 = 0 ∧ ∀ j q, j < i + 1 → ops[j]? = some q → q.num ≤ ((ss k).oneF o).1.k q.peer := by
  obtain ⟨Fs, pv, mds, h1, G, O, K⟩ := X
  have hil := (List.getElem?_eq_some_iff.1 ho).1
  have hsp : ops = ops.take i ++ o :: ops.drop (i + 1) := by
    conv => lhs; rw [← List.take_append_drop i ops]
    rw [List.drop_eq_getElem_cons hil, (List.getElem?_eq_some_iff.1 ho).2]
  have hrev : ops.reverse = (ops.drop (i + 1)).reverse ++ o :: (ops.take i).reverse := by
    conv => lhs; rw [hsp]
    simp
  have h2 := O.hist
  have h3 := O.grp
  have h4 := O.ok k hk
  rw [hrev] at h2 h3 h4
  obtain ⟨r1, r2, r3⟩ := in_turn h2 h3 h4 (O.inrow k hk) (fun q hq => by
    obtain ⟨j, hj, e⟩ := List.getElem_of_mem (List.mem_reverse.1 hq)
    rw [List.length_take] at hj
    rw [List.getElem_take] at e
    exact hb j q (by omega) (by rw [List.getElem?_eq_getElem (by omega), e]))
  refine ⟨r1, fun j q hj hq => ?_⟩
  by_cases hji : j = i
  · subst hji
    rw [ho] at hq
    cases hq
    exact r2
  · exact Nat.le_trans (hb j q (by omega) hq) (r3 _)

/-- At the end both have the same row. -/
theorem ty_same {w wr : World} {bg bl lc : Nat} {bp : Nat → Nat} {t L n m count : Nat} {b : Pr} (X : Ty w wr bg bl lc bp t (tyS (t0 L n m) b) (opsT L n m) count) (hb : ∀ j q, j < (opsT L n m).length → (opsT L n m)[j]? = some q → q.num ≤ b.k q.peer) : b.row = (t0 L n m).row := by
  obtain ⟨Fs, pv, mds, h1, G, O, K⟩ := X
  refine same_row O.hist (O.ok 1 (by decide)) (O.ok 0 (by decide)) (fun o ho => ?_) (fun o ho => ?_)
  · obtain ⟨j, hj, e⟩ := List.getElem_of_mem (List.mem_reverse.1 ho)
    exact hb j o hj (by rw [List.getElem?_eq_getElem hj, e])
  · exact t0_all L n m o (List.mem_reverse.1 ho)

theorem opsT_length (L n m : Nat) : (opsT L n m).length = L + n + m := by simp [opsT, ops0, ops1]

/-- The three lists of characters, k of all being written. -/
def tl (L N k : Nat) : Nat → List Int := fun j => if j = 0 then tchars 19968 (min k L) else if j = 1 then tchars (19968 + L) (min (k - L) N) else tchars (19968 + L + N) (k - (L + N))

theorem tl_zero (L N : Nat) : tl L N 0 = fun _ => [] := by
  funext j
  unfold tl
  simp [tchars]

theorem tl_a (L N k : Nat) (h : k < L) : upd (tl L N k) 0 (tl L N k 0 ++ [(19968 : Int) + (k : Int)]) = tl L N (k + 1) := by
  funext j
  unfold upd
  by_cases h0 : j = 0
  · subst h0
    rw [if_pos rfl]
    unfold tl
    rw [if_pos rfl, if_pos rfl, show min k L = k by omega, show min (k + 1) L = k + 1 by omega, tchars_succ]
    congr 2
  · rw [if_neg h0]
    unfold tl
    rw [if_neg h0, if_neg h0]
    by_cases h1 : j = 1
    · rw [if_pos h1, if_pos h1, show min (k - L) N = 0 by omega, show min (k + 1 - L) N = 0 by omega]
    · rw [if_neg h1, if_neg h1, show k - (L + N) = 0 by omega, show k + 1 - (L + N) = 0 by omega]

theorem tl_b (L N k : Nat) (h : L ≤ k) (h2 : k < L + N) : upd (tl L N k) 1 (tl L N k 1 ++ [(19968 : Int) + (k : Int)]) = tl L N (k + 1) := by
  funext j
  unfold upd
  by_cases h1 : j = 1
  · subst h1
    rw [if_pos rfl]
    unfold tl
    rw [if_neg (by decide), if_pos rfl, if_neg (by decide), if_pos rfl, show min (k - L) N = k - L by omega, show min (k + 1 - L) N = k - L + 1 by omega, tchars_succ]
    congr 2
    omega
  · rw [if_neg h1]
    unfold tl
    rw [if_neg h1, if_neg h1]
    by_cases h0 : j = 0
    · rw [if_pos h0, if_pos h0, show min k L = L by omega, show min (k + 1) L = L by omega]
    · rw [if_neg h0, if_neg h0, show k - (L + N) = 0 by omega, show k + 1 - (L + N) = 0 by omega]

theorem tl_c (L N k : Nat) (h : L + N ≤ k) : upd (tl L N k) 2 (tl L N k 2 ++ [(19968 : Int) + (k : Int)]) = fun j => if j = 0 then tl L N (k + 1) 0 else if j = 1 then tl L N (k + 1) 1 else if j = 2 then tl L N (k + 1) 2 else tl L N k j := by
  funext j
  unfold upd
  by_cases h2 : j = 2
  · subst h2
    rw [if_pos rfl, if_neg (by decide), if_neg (by decide), if_pos rfl]
    unfold tl
    rw [if_neg (by decide), if_neg (by decide), if_neg (by decide), if_neg (by decide), show k + 1 - (L + N) = k - (L + N) + 1 by omega, tchars_succ]
    congr 2
    omega
  · rw [if_neg h2]
    by_cases h0 : j = 0
    · subst h0
      rw [if_pos rfl]
      unfold tl
      rw [if_pos rfl, if_pos rfl, show min k L = L by omega, show min (k + 1) L = L by omega]
    · rw [if_neg h0]
      by_cases h1 : j = 1
      · subst h1
        rw [if_pos rfl]
        unfold tl
        rw [if_neg (by decide), if_pos rfl, if_neg (by decide), if_pos rfl, show min (k - L) N = N by omega, show min (k + 1 - L) N = N by omega]
      · rw [if_neg h1, if_neg h2]

theorem R3.congr {W w : World} {v : Nat → Value} {l l' : Nat → List Int} (h : R3 W w v l) (he : ∀ j, j < 3 → l j = l' j) : R3 W w v l' := ⟨fun j hj => by rw [← he j hj]; exact h.at_ j hj, h.apart, h.new, h.kept⟩

theorem tl_len (L N k j : Nat) : (tl L N k j).length ≤ k := by
  unfold tl
  split
  · rw [tchars_length]; omega
  · split
    · rw [tchars_length]; omega
    · rw [tchars_length]; omega

/-- One more of all is written. -/
theorem R3.next {W w : World} {v : Nat → Value} {L N k : Nat} (h : R3 W w v (tl L N k)) (hk : k ≤ 1000) (q : Nat) (hq : (q = 0 ∧ k < L) ∨ (q = 1 ∧ L ≤ k ∧ k < L + N) ∨ (q = 2 ∧ L + N ≤ k)) :
    ∃ v' w', (∀ ty, (Builtin.append_ #[28, 28] ty #[v q, .slice (some ⟨w.heap.size, 0, none⟩) 1 1]).run Try.prog (w.alloc (.cells #[.int .i32 ((19968 : Int) + (k : Int))] 21)) = .ok v' w') ∧ R3 W w' (upd v q v') (tl L N (k + 1)) := by
  have hq3 : q < 3 := by omega
  obtain ⟨v', w', hr, hR', hkp, hnb⟩ := (h.at_ q hq3).one ((19968 : Int) + (k : Int)) (by have := tl_len L N k q; omega)
  refine ⟨v', w', hr, ?_⟩
  have := h.add q hq3 _ v' hR' hkp hnb
  rcases hq with ⟨rfl, h1⟩ | ⟨rfl, h1, h2⟩ | ⟨rfl, h1⟩
  · rw [tl_a L N k h1] at this
    exact this
  · rw [tl_b L N k h1 h2] at this
    exact this
  · rw [tl_c L N k h1] at this
    refine this.congr (fun j hj => ?_)
    by_cases h0 : j = 0
    · subst h0; rfl
    · by_cases h2 : j = 1
      · subst h2; rfl
      · obtain rfl : j = 2 := by omega
        rfl

theorem tl_end (L N M : Nat) : tl L N (L + N + M) 0 = tchars 19968 L ∧ tl L N (L + N + M) 1 = tchars (19968 + L) N ∧ tl L N (L + N + M) 2 = tchars (19968 + L + N) M := by
  unfold tl
  refine ⟨?_, ?_, ?_⟩
  · rw [if_pos rfl, show min (L + N + M) L = L by omega]
  · rw [if_neg (by decide), if_pos rfl, show min (L + N + M - L) N = N by omega]
  · rw [if_neg (by decide), if_neg (by decide), show L + N + M - (L + N) = M by omega]

theorem enc_len (ch n : Nat) (h : ch + n ≤ 55296) : (bytesOf (tchars ch n)).length ≤ 4 * n := by
  have key : ∀ l : List Int, (l.flatMap Lib.encodeRune).length ≤ 4 * l.length := by
    intro l
    induction l with
    | nil => simp
    | cons c r ih =>
      rw [List.flatMap_cons, List.length_append, List.length_cons]
      have : (Lib.encodeRune c).length ≤ 4 := by
        unfold Lib.encodeRune Lib.encodeRuneZ
        repeat' split
        all_goals simp
      omega
  have := key (tchars ch n)
  rw [tchars_length] at this
  exact this

end Go.Proofs.Ytgfafbanahiigaa
