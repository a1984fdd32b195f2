import Derived.Test.YtgfafbanahiigaaGreatV12
set_option linter.unusedVariables false
set_option linter.unusedSimpArgs false
namespace Go.Proofs.YtgfafbanahiigaaGreat
open Go.RowKit Go.Chorus
theorem firstGo_mem (s : Pr) (l : List Ope) (i : Nat) (x : Nat × Ope) (h : firstGo s l i = some x) : i ≤ x.1 ∧ l[x.1 - i]? = some x.2 ∧ s.can x.2 = true := by
 induction l generalizing i with
 | nil => cases h
 | cons o r ih =>
  unfold firstGo at h
  by_cases hc : s.can o = true
  ·rw [if_pos hc] at h; cases h; exact ⟨Nat.le_refl _, by simp, hc⟩
  ·rw [if_neg hc] at h
   obtain ⟨a, b, c⟩ := ih (i + 1) h
   refine ⟨by omega, ?_, c⟩
   have : x.1 - i = (x.1 - (i + 1)) + 1 := by omega
   rw [this, List.getElem?_cons_succ]; exact b
theorem settleF_fit {N : Nat} : ∀ (f : Nat) (s : Pr), Fit N s → Fit N (settleF f s).1 ∧ psize (settleF f s).1 ≤ psize s := by
 intro f
 induction f with
 | zero => intro s h; exact ⟨h, Nat.le_refl _⟩
 | succ f ih =>
  intro s h
  unfold settleF
  cases hf : s.firstCan with
  | none => exact ⟨h, Nat.le_refl _⟩
  | some x =>
   obtain ⟨i, o⟩ := x
   obtain ⟨_, hi, hc⟩ := firstGo_mem s s.held 0 (i, o) hf
   simp only [Nat.sub_zero] at hi hc
   have hil : i < s.held.length := (List.getElem?_eq_some_iff.1 hi).1
   have hel : (s.held.eraseIdx i).length = s.held.length - 1 := List.length_eraseIdx_of_lt hil
   have h1 : Fit N ({ s with held := s.held.eraseIdx i } : Pr) := ⟨h.len, h.n1, h.n8, h.me, h.known, h.clock, fun o ho => h.held o (List.mem_of_mem_eraseIdx ho), by have := h.most; show (s.held.eraseIdx i).length ≤ 16; omega, h.row, h.log⟩
   have h2 := h1.apply (h.held o (List.mem_of_getElem? hi)) ((can_iff s o).1 hc).1
   obtain ⟨a, b⟩ := ih _ h2
   have h3 := size_apply ({ s with held := s.held.eraseIdx i } : Pr) o
   refine ⟨a, Nat.le_trans b ?_⟩
   unfold psize at h3 ⊢
   have h4 : ({ s with held := s.held.eraseIdx i } : Pr).held.length = s.held.length - 1 := hel
   have h5 : ({ s with held := s.held.eraseIdx i } : Pr).row = s.row := rfl
   rw [h4, h5] at h3
   omega
theorem waitIn_length (l : List Ope) (o : Ope) : (waitIn l o).length = l.length + 1 := by
 have := (waitIn_perm l o).length_eq
 simpa using this
theorem oneF_fit {N : Nat} {s : Pr} (h : Fit N s) {o : Ope} (ho : RightOp N o) : Fit N (s.oneF o).1 ∧ psize (s.oneF o).1 ≤ psize s + 1 ∧ (s.oneF o).2.1 ≤ 17 := by
 unfold Pr.oneF
 split
 ·exact ⟨h, Nat.le_succ _, Nat.zero_le _⟩
 ·split
  ·exact ⟨h, Nat.le_succ _, Nat.zero_le _⟩
  ·split
   ·rename_i hc
    obtain ⟨a, b⟩ := settleF_fit s.held.length (s.apply o) (h.apply ho ((can_iff s o).1 hc).1)
    have c := size_apply s o
    have d := settleF_num s.held.length (s.apply o)
    have e := h.most
    refine ⟨a, Nat.le_trans b c, ?_⟩
    show (settleF _ _).2 + 1 ≤ 17
    omega
   ·split
    ·exact ⟨h, Nat.le_succ _, Nat.zero_le _⟩
    ·rename_i h16
     refine ⟨⟨h.len, h.n1, h.n8, h.me, h.known, h.clock, ?_, ?_, h.row, h.log⟩, ?_, by simp⟩
     ·intro q hq
      rcases List.mem_append.1 ((waitIn_perm s.held o).mem_iff.1 hq) with hq | hq
      ·exact h.held q hq
      ·rw [List.mem_singleton.1 hq]; exact ho
     ·show (waitIn s.held o).length ≤ 16
      rw [waitIn_length]; omega
     ·show s.row.length + (waitIn s.held o).length ≤ _
      rw [waitIn_length]; unfold psize; omega
theorem recvF_fit {N : Nat} {s : Pr} (h : Fit N s) (l : List UInt8) : Fit N (recvF N s l).1 ∧ psize (recvF N s l).1 ≤ psize s + 1 ∧ (recvF N s l).2.1 ≤ 17 := by
 unfold recvF
 split
 ·rename_i hr
  exact oneF_fit h (hr.packet h.n8).2
 ·exact ⟨h, Nat.le_succ _, Nat.zero_le _⟩
theorem recvF_err {N : Nat} (s : Pr) (l : List UInt8) : (recvF N s l).2.2 = 0 ∨ (recvF N s l).2.2 = 5 ∨ (recvF N s l).2.2 = 6 := by
 unfold recvF
 split
 ·unfold Pr.oneF
  split
  ·exact Or.inr (Or.inr rfl)
  ·split
   ·exact Or.inl rfl
   ·split
    ·exact Or.inl rfl
    ·split
     ·exact Or.inr (Or.inl rfl)
     ·exact Or.inl rfl
 ·exact Or.inr (Or.inr rfl)
def recvAllF (N : Nat) : Pr → List (List UInt8) → Pr × Nat × Int
 | s, [] => (s, 0, 0)
 | s, l :: r => if (recvF N s l).2.2 = 0 then ((recvAllF N (recvF N s l).1 r).1, (recvF N s l).2.1 + (recvAllF N (recvF N s l).1 r).2.1, (recvAllF N (recvF N s l).1 r).2.2) else recvF N s l
theorem Turn.trans {bp : Nat} {F F' : Nat → Prop} {w w' w'' : World} {s' : Pr} (k : Kept F w w') (hF : ∀ k, F' k → F k ∨ w.heap.size ≤ k) (h : Turn bp F' w' w'' s') : Turn bp F w w'' s' := by
 obtain ⟨F2, a, b, c⟩ := h
 refine ⟨F2, a, k.trans b (fun i hi hs => ?_), fun i hi => ?_⟩
 ·rcases hF i hs with h | h
  ·exact h
  ·omega
 ·rcases c i hi with h | h
  ·exact hF i h
  ·exact Or.inr (Nat.le_trans k.size h)
def StrsAt (w : World) (a : Option Addr) (ls : List (List UInt8)) : Prop := ls ≠ [] → ∃ g, a = some ⟨g, 0, none⟩ ∧ ∀ i l, ls[i]? = some l → w.cell? ⟨g, i, none⟩ = some (.string ⟨l.toArray⟩)
set_option maxHeartbeats 1000000 in
theorem receive_any (s : Pr) (N : Nat) (bp : Nat) (F : Nat → Prop) (ls : List (List UInt8)) (a : Option Addr) (cp : Nat) (w : World) (h : PM w bp s F) (hf : Fit N s) (hn : psize s + ls.length < 4294967295)
  (hs : StrsAt w a ls) (hap : ∀ ad, a = some ad → ¬ F ad.block) :
  Calls Tryz.prog 34 #[.pointer (some ⟨bp, 0, none⟩), .slice a ls.length cp] w fun e' w' =>
   e' = .returned (.tuple #[.int .i64 ((recvAllF N s ls).2.1 : Nat), .int .i64 (recvAllF N s ls).2.2]) ∧ Turn bp F w w' (recvAllF N s ls).1 := by
 go_enter Tryz.func34, Tryz.ntmps34
 go_wp2
 have hln : ls.length ≤ 4294967295 := by omega
 go_loopw [6, 15] (fun d i wr => ∃ (k d' : Nat) (s' : Pr) (F' : Nat → Prop), k ≤ ls.length ∧ i = .int .i64 k ∧ d = .int .i64 d' ∧ d' ≤ 17 * k ∧ Hid (PM wr bp s' F' ∧ Fit N s' ∧ psize s' + (ls.length - k) < 4294967295 ∧ Kept F w wr ∧ (∀ j, F' j → F j ∨ w.heap.size ≤ j) ∧ (recvAllF N s ls).1 = (recvAllF N s' (ls.drop k)).1 ∧ (recvAllF N s ls).2.1 = d' + (recvAllF N s' (ls.drop k)).2.1 ∧ (recvAllF N s ls).2.2 = (recvAllF N s' (ls.drop k)).2.2)) (fun _ i _ => ls.length - (intOf i).toNat)
 case atStart => exact ⟨0, 0, s, F, Nat.zero_le _, rfl, rfl, Nat.zero_le _, h, hf, by omega, Kept.refl _ _, fun _ h => Or.inl h, rfl, by simp, rfl⟩
 case round =>
  obtain ⟨k, d', s', F', hk, rfl, rfl, hd, X⟩ := hrel
  by_cases hlt : k < ls.length
  ·obtain ⟨l, hek⟩ : ∃ l, ls[k]? = some l := ⟨_, List.getElem?_eq_getElem hlt⟩
   obtain ⟨g, rfl, hg⟩ := hs (by intro h; rw [h] at hlt; simp at hlt)
   obtain ⟨x1, x2, x3, x4, x5, x6, x7, x8⟩ := X.out
   have c0 : wr.cell? ⟨g, k, none⟩ = some (.string ⟨l.toArray⟩) := x4.cell' (hg k l hek) (hap ⟨g, 0, none⟩ rfl)
   have hdr : ls.drop k = l :: ls.drop (k + 1) := by rw [List.drop_eq_getElem_cons hlt, (List.getElem?_eq_some_iff.1 hek).2]
   rw [hdr] at x6 x7 x8
   have hro := receiveOne_any s' N bp F' l wr x1 x2 (by omega)
   obtain ⟨f1, f2, f3⟩ := recvF_fit x2 l
   have hE := recvF_err (N := N) s' l
   obtain ⟨t, ht⟩ : ∃ t, recvF N s' l = t := ⟨_, rfl⟩
   have hst : (recvAllF N s' (l :: ls.drop (k + 1))) = if t.2.2 = 0 then ((recvAllF N t.1 (ls.drop (k + 1))).1, t.2.1 + (recvAllF N t.1 (ls.drop (k + 1))).2.1, (recvAllF N t.1 (ls.drop (k + 1))).2.2) else t := by rw [← ht]; rfl
   rw [ht] at hro f1 f2 f3 hE
   rw [hst] at x6 x7 x8
   obtain ⟨ts, tn, te⟩ := t
   simp only [] at hro f1 f2 f3 hE x6 x7 x8
   have HY : Hid (Fit N ts ∧ psize ts + (ls.length - (k + 1)) < 4294967295 ∧ Kept F w wr ∧ (∀ j, F' j → F j ∨ w.heap.size ≤ j)) := ⟨f1, by omega, x4, x5⟩
   have H6 : Hid _ := x6
   have H7 : Hid _ := x7
   have H8 : Hid _ := x8
   clear X x1 x2 x3 x4 x5 x6 x7 x8 hek hdr ht hst f1 f2
   go_wp2_with fail
   refine hro.mono ?_
   rintro e1 w1 ⟨rfl, hT⟩
   have HT : Hid _ := hT
   clear hT hro
   by_cases he : te = 0
   ·subst he
    have z6 := H6.out
    have z7 := H7.out
    have z8 := H8.out
    rw [if_pos rfl] at z6 z7 z8
    simp only [] at z6 z7 z8
    have I6 : Hid _ := z6
    have I7 : Hid _ := z7
    have I8 : Hid _ := z8
    clear H6 H7 H8 z6 z7 z8 hE
    go_wp2
    go_roundw
    case rel =>
     obtain ⟨F2, p1, p2, p3⟩ := HT.out
     obtain ⟨y1, y2, y3, y4⟩ := HY.out
     refine ⟨k + 1, d' + tn, ts, F2, by omega, by go_num, by go_num, by omega, p1, y1, y2, y3.trans p2 (fun i hi hs => ?_), fun j hj => ?_, I6.out, by rw [I7.out]; omega, I8.out⟩
     ·rcases y4 i hs with h | h
      ·exact h
      ·omega
     ·rcases p3 j hj with h | h
      ·exact y4 j h
      ·exact Or.inr (Nat.le_trans y3.size h)
    case measure => simp [intOf]; omega
   ·have e1 : (te == 0) = false := by simpa using he
    have z6 := H6.out
    have z7 := H7.out
    have z8 := H8.out
    rw [if_neg he] at z6 z7 z8
    simp only [] at z6 z7 z8
    have I6 : Hid _ := z6
    have I7 : Hid _ := z7
    have I8 : Hid _ := z8
    clear he H6 H7 H8 z6 z7 z8
    go_wp2
    go_ret2
    rw [I6.out, I7.out, I8.out]
    exact ⟨by go_num, Turn.trans HY.out.2.2.1 HY.out.2.2.2 HT.out⟩
  ·have hke : k = ls.length := by omega
   obtain ⟨x1, x2, x3, x4, x5, x6, x7, x8⟩ := X.out
   rw [hke, List.drop_length] at x6 x7 x8
   have H6 : Hid _ := x6
   have H7 : Hid _ := x7
   have H8 : Hid _ := x8
   have HT : Hid (Turn bp F w wr s') := ⟨F', x1, x4, x5⟩
   clear X x1 x2 x3 x4 x5 x6 x7 x8
   go_wp2
   go_ret2
   rw [H6.out, H7.out, H8.out]
   exact ⟨rfl, HT.out⟩
end Go.Proofs.YtgfafbanahiigaaGreat
