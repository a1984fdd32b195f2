/- played: the whole script. -/
import Derived.Test.YtgfafbanahiigaaGreatL10
set_option linter.unusedVariables false
set_option linter.unusedSimpArgs false
namespace Go.Proofs.YtgfafbanahiigaaGreat
open Go.RowKit Go.Chorus

/-- A step of a script, as it lies in memory. -/
structure SOp where
  kind : Int
  P : Int
  A : Int
  B : Int
  la : Option Addr
  sa : Option Addr
  ns : List Int
  ls : List (List UInt8)
  lc : Nat
  sc : Nat

def i64r (n : Int) : Prop := -9223372036854775808 ≤ n ∧ n ≤ 9223372036854775807

structure SOp.Ok (w : World) (o : SOp) : Prop where
  P : i64r o.P
  A : i64r o.A
  B : i64r o.B
  kind : i64r o.kind
  lc : o.ns.length ≤ o.lc ∧ o.lc ≤ maxLen
  sc : o.ls.length ≤ o.sc ∧ o.sc ≤ maxLen
  nsG : IntsG w o.la o.ns
  lsG : StrsG w o.sa o.ls
  ns : ∀ n ∈ o.ns, i64r n
  la : 0 < o.ns.length → ∀ ad, o.la = some ad → ad.block < w.heap.size
  sa : 0 < o.ls.length → ∀ ad, o.sa = some ad → ad.block < w.heap.size

def SOp.cells (o : SOp) : List Value := [.int .i64 o.kind, .int .i64 o.P, .int .i64 o.A, .int .i64 o.B, .slice o.la o.ns.length o.lc, .slice o.sa o.ls.length o.sc]

def ScriptAt (w : World) (a : Option Addr) (os : List SOp) : Prop := ∀ (i : Nat) (o : SOp), os[i]? = some o → o.Ok w ∧ ∃ g off, a = some ⟨g, off, none⟩ ∧ ∀ (j : Nat) (u : Value), o.cells[j]? = some u → w.cell? ⟨g, off + i * 6 + j, none⟩ = some u

/-- How much a script holds. -/
def wt : List SOp → Nat
  | [] => 0
  | o :: r => (7 + (o.ns.length + o.ls.length)) + wt r

theorem wt_append (a b : List SOp) : wt (a ++ b) = wt a + wt b := by
  induction a with
  | nil => simp [wt]
  | cons x r ih => simp only [List.cons_append, wt, ih]; omega

theorem wt_take (l : List SOp) (k : Nat) (o : SOp) (h : l[k]? = some o) : wt (l.take (k + 1)) = wt (l.take k) + (7 + (o.ns.length + o.ls.length)) := by
  have hk : k < l.length := (List.getElem?_eq_some_iff.1 h).1
  have he : l[k] = o := (List.getElem?_eq_some_iff.1 h).2
  rw [List.take_succ_eq_append_getElem hk, wt_append, he]
  simp [wt]

theorem wt_le (l : List SOp) (k : Nat) : wt (l.take k) ≤ wt l := by
  have := wt_append (l.take k) (l.drop k)
  rw [List.take_append_drop] at this
  omega

theorem wt_len (l : List SOp) : 7 * l.length ≤ wt l := by
  induction l with
  | nil => simp [wt]
  | cons x r ih => simp only [wt, List.length_cons]; omega

/-- What holds behind k steps. -/
structure Run (os : List SOp) (W wr : World) (bw : Nat) (k : Nat) : Prop where
  kept : Kept (fun b => bw ≤ b) W wr
  state : ∃ S M c, WSt M bw wr bw S ∧ WLen S (2 + k) c ∧ M ≤ 2 + wt (os.take k) ∧ c ≤ (2 + k) * 1048600

theorem step_both (last : Int) (hT : 6 ≤ last → TakesOk ∧ SomeOk ∧ BentOk) (hRs : 9 ≤ last → RestOk) {M B0 : Nat} {w : World} {bw : Nat} {S : WS} {q c : Nat} (h : WSt M B0 w bw S) (hL : WLen S q c) (hB : B0 ≤ w.heap.size) (hq : q ≤ 4294967) (hc : c ≤ 1099511627776) (w0 : World) (o : SOp) (ho : o.Ok w0) (hkl : o.kind ≤ last) (hM : M + 1 + (o.ns.length + o.ls.length) ≤ 4294967) (h0 : B0 = w0.heap.size) (hk : Kept (fun b => B0 ≤ b) w0 w) :
    Calls Tryz.prog 7 #[.pointer (some ⟨bw, 0, none⟩), .agg #[.int .i64 o.kind, .int .i64 o.P, .int .i64 o.A, .int .i64 o.B, .slice o.la o.ns.length o.lc, .slice o.sa o.ls.length o.sc]] w fun e' w' => e' = .returned (.bool true) ∧ StepEnd M B0 w w' bw q c (o.ns.length + o.ls.length) := by
  by_cases hk1 : o.kind = 1
  · rw [hk1]
    have hps := hL.ps
    refine (step_new h hB (by omega) o.P o.A o.B o.la o.sa o.ns.length o.lc o.ls.length o.sc).mono ?_
    rintro e' w' ⟨he, hk', S', G', s1, s2, s3, s4, s5, s6, _⟩
    refine ⟨he, hk', S', G'.more (by omega), ?_⟩
    have hns := hL.ns
    have hts := hL.ts
    have hpk := hL.pks
    exact ⟨by omega, by rw [s2]; omega, by rw [s3, s5]; exact hL.nm, by rw [s3]; omega, by rw [s4, s6]; exact hL.tm, by rw [s4]; omega⟩
  · exact step_rest last hT hRs h hL hB hq hc o.kind o.P o.A o.B hk1 hkl ho.P.1 ho.P.2 ho.A.1 ho.A.2 ho.B.1 ho.B.2 o.la o.sa o.ns o.ls o.lc o.sc hM ho.lc ho.sc (ho.nsG.keep hk (fun hn ad hd => by have := ho.la hn ad hd; omega)) (ho.lsG.keep hk (fun hn ad hd => by have := ho.sa hn ad hd; omega)) ho.ns (fun hn ad hd => by have := ho.la hn ad hd; omega) (fun hn ad hd => by have := ho.sa hn ad hd; omega)

theorem opNil_ok (w : World) (k P A B : Int) (hk : i64r k) (hP : i64r P) (hA : i64r A) (hB : i64r B) : (⟨k, P, A, B, none, none, [], [], 0, 0⟩ : SOp).Ok w :=
  ⟨hP, hA, hB, hk, ⟨Nat.le_refl _, Nat.zero_le _⟩, ⟨Nat.le_refl _, Nat.zero_le _⟩, fun i n hi => (by simp at hi), fun i n hi => (by simp at hi), fun n hn => (by cases hn), fun _ ad hd => (by cases hd), fun _ ad hd => (by cases hd)⟩

set_option maxHeartbeats 2000000 in
set_option maxRecDepth 100000 in
theorem played_any (last : Int) (h5 : 5 ≤ last) (hT : 6 ≤ last → TakesOk ∧ SomeOk ∧ BentOk) (hRs : 9 ≤ last → RestOk) (os : List SOp) (a : Option Addr) (cap : Nat) (w : World) (hs : ScriptAt w a os) (hwt : wt os ≤ 1048576) :
    Calls Tryz.prog 6 #[.slice a os.length cap, .int .i64 last] w fun e' w' => e' = .returned (.bool true) ∧ Kept (fun _ => False) w w' := by
  obtain ⟨W, hWe⟩ : ∃ W, W = w.alloc (.cells #[.slice none 0 0, .slice none 0 0, .slice none 0 0, .slice none 0 0, .slice none 0 0, .slice none 0 0] 33) := ⟨_, rfl⟩
  have hW : Kept (fun _ => False) w W := by rw [hWe]; exact (Kept.refl _ w).alloc _
  have hb : W.heap[w.heap.size]? = some (.cells #[.slice none 0 0, .slice none 0 0, .slice none 0 0, .slice none 0 0, .slice none 0 0, .slice none 0 0] 33 (0, 0)) := by rw [hWe]; exact heap_alloc_new w _
  have hz := lt_of_heap hb
  have G0 := WSt.start W w.heap.size hb
  have hlen7 := wt_len os
  obtain ⟨bw, hbw⟩ : ∃ bw, w.heap.size = bw := ⟨_, rfl⟩
  rw [hbw] at hz G0
  have h1 : Calls Tryz.prog 7 #[.pointer (some ⟨bw, 0, none⟩), .agg #[.int .i64 1, .int .i64 0, .int .i64 0, .int .i64 3, .slice none 0 0, .slice none 0 0]] W fun e' w' => e' = .returned (.bool true) ∧ Hid (Kept (fun b => bw ≤ b) w w' ∧ ∃ S, WSt 0 bw w' bw S ∧ WLen S 1 0) := by
    refine (step_new G0 (by omega) (by show 0 ≤ _; omega) 0 0 3 none none 0 0 0 0).mono ?_
    rintro e' w' ⟨he, hk', S', G', s1, s2, s3, s4, s5, s6, s7⟩
    refine ⟨he, (hW.mono (fun _ _ h => h.elim)).trans hk' (fun _ _ h => h), S', G', ?_⟩
    have h7 := s7 (by decide)
    have hp0 : WS.nil.ps.length = 0 := rfl
    exact ⟨by omega, by rw [s2]; exact Nat.le_refl _, by rw [s3, s5]; rfl, by rw [s3]; exact Nat.zero_le _, by rw [s4, s6]; rfl, by rw [s4]; exact Nat.zero_le _⟩
  have h2 : Hid (∀ (w1 : World), Kept (fun b => bw ≤ b) w w1 → (∃ S, WSt 0 bw w1 bw S ∧ WLen S 1 0) → Calls Tryz.prog 7 #[.pointer (some ⟨bw, 0, none⟩), .agg #[.int .i64 4, .int .i64 0, .int .i64 0, .int .i64 97, .slice none 0 0, .slice none 0 0]] w1 fun e' w' => e' = .returned (.bool true) ∧ Run os w w' bw 0) := by
    rintro w1 k1 ⟨S, G, hL⟩
    have hB : bw ≤ w1.heap.size := by have := k1.size; omega
    have ho := opNil_ok w 4 0 0 97 (by unfold i64r; decide) (by unfold i64r; decide) (by unfold i64r; decide) (by unfold i64r; decide)
    refine (step_both last hT hRs G hL hB (by decide) (by decide) w _ ho (by show (4 : Int) ≤ last; omega) (by show 0 + 1 + (0 + 0) ≤ _; decide) hbw.symm k1).mono ?_
    rintro e' w' ⟨he, hk', S', G', hL'⟩
    exact ⟨he, k1.trans hk' (fun _ _ h => h), S', _, _, G'.more (M' := 2) (by show 0 + 1 + (0 + 0) ≤ 2; decide), hL'.up (by decide) (c' := 1) (by decide), by simp [wt], by omega⟩
  have h3 : Hid (∀ (k : Nat) (o : SOp) (wr : World), os[k]? = some o → o.kind ≤ last → Run os w wr bw k → Calls Tryz.prog 7 #[.pointer (some ⟨bw, 0, none⟩), .agg #[.int .i64 o.kind, .int .i64 o.P, .int .i64 o.A, .int .i64 o.B, .slice o.la o.ns.length o.lc, .slice o.sa o.ls.length o.sc]] wr fun e' w' => e' = .returned (.bool true) ∧ Run os w w' bw (k + 1)) := by
    rintro k o wr ho hkl ⟨kr, S, M, c, G, hL, hM, hc⟩
    have hB : bw ≤ wr.heap.size := by have := kr.size; omega
    have hkl2 := (List.getElem?_eq_some_iff.1 ho).1
    have h1 := wt_take os k o ho
    have h2 := wt_le os (k + 1)
    have hcb : (2 + k) * 1048600 ≤ 149798 * 1048600 := Nat.mul_le_mul_right _ (by omega)
    refine (step_both last hT hRs G hL hB (by omega) (by omega) w o (hs k o ho).1 hkl (by omega) hbw.symm kr).mono ?_
    rintro e' w' ⟨he, hk', S', G', hL'⟩
    refine ⟨he, kr.trans hk' (fun _ _ h => h), S', _, (2 + (k + 1)) * 1048600, G', hL'.up (by omega) ?_, by omega, Nat.le_refl _⟩
    rw [show 2 + (k + 1) = (2 + k) + 1 by omega, Nat.add_mul]
    omega
  have h4 : Hid (∀ (k : Nat) (wr : World), k ≤ os.length → Run os w wr bw k → Calls Tryz.prog 8 #[.pointer (some ⟨bw, 0, none⟩)] wr fun e' w' => e' = .returned (.bool true) ∧ Kept (fun _ => False) wr w') := by
    rintro k wr hk ⟨kr, S, M, c, G, hL, hM, hc⟩
    have hns := hL.ns
    have hts := hL.ts
    exact looks_any G hL.nm hL.tm (by omega) (by omega)
  have h5r : Hid (∀ (k : Nat) (wr w' : World), Run os w wr bw k → Kept (fun _ => False) wr w' → Run os w w' bw k) := by
    rintro k wr w' ⟨kr, S, M, c, G, hL, hM, hc⟩ k'
    exact ⟨kr.trans k' (fun _ _ h => h.elim), S, M, c, G.quiet k', hL, hM, hc⟩
  have h6r : Hid (∀ (k : Nat) (o : SOp) (wr : World), os[k]? = some o → Run os w wr bw k → Run os w wr bw (k + 1)) := by
    rintro k o wr ho ⟨kr, S, M, c, G, hL, hM, hc⟩
    have h1 := wt_take os k o ho
    exact ⟨kr, S, M, c, G, hL.up (by omega) (Nat.le_refl _), by omega, Nat.le_trans hc (Nat.mul_le_mul_right _ (by omega))⟩
  have hend : Hid (∀ (k : Nat) (wr : World), Run os w wr bw k → Kept (fun _ => False) w wr) := by
    rintro k wr R
    refine R.kept.mono (fun b hb h => ?_)
    rw [hbw] at hb
    omega
  have HS : Hid (ScriptAt w a os) := hs
  clear G0 hT hRs hb hs hW
  go_enter Tryz.func6, Tryz.ntmps6
  go_upto_region 2 with fail
  rw [← hWe]
  clear hWe
  go_wp2_with fail
  refine h1.mono ?_
  rintro e1 w1 ⟨rfl, H1⟩
  have h2' := h2.out w1 H1.out.1 H1.out.2
  clear h1 h2 H1
  go_wp2_with fail
  refine h2'.mono ?_
  rintro e2 w2 ⟨rfl, R2⟩
  have HR2 : Hid (Run os w w2 bw 0) := R2
  clear h2' R2 hbw hz
  go_wp2_with fail
  go_loopw [6, 7] (fun ok i wr => ok = .bool true ∧ ∃ k : Nat, k ≤ os.length ∧ i = .int .i64 k ∧ Hid (Run os w wr bw k)) (fun _ i _ => os.length - (intOf i).toNat)
  case atStart => exact ⟨rfl, 0, Nat.zero_le _, rfl, HR2⟩
  case round =>
    clear HR2
    obtain ⟨rfl, k, hk, rfl, HR⟩ := hrel
    by_cases hlt : k < os.length
    · have hlt2 : (k : Int) < (os.length : Int) := by omega
      obtain ⟨o, ho⟩ : ∃ o, os[k]? = some o := ⟨_, List.getElem?_eq_getElem hlt⟩
      obtain ⟨hok, g, off, rfl, hcell⟩ := HS.out k o ho
      have hgz : g < w.heap.size := by
        have := World.block_lt_of_cell? w _ (hcell 0 _ rfl)
        exact this
      have hcw : ∀ (j : Nat) (u : Value), o.cells[j]? = some u → wr.cell? ⟨g, off + k * 6 + j, none⟩ = some u := fun j u hj => by
        have h0 := hend.out k wr HR.out
        exact h0.cell' (hcell j u hj) (fun h => h)
      have x0 := hcw 0 _ rfl
      have x1 := hcw 1 _ rfl
      have x2 := hcw 2 _ rfl
      have x3 := hcw 3 _ rfl
      have x4 := hcw 4 _ rfl
      have x5 := hcw 5 _ rfl
      simp only [Nat.add_zero] at x0
      have xz : g < wr.heap.size := World.block_lt_of_cell? wr _ x0
      have HO : Hid (os[k]? = some o) := ho
      have hki := hok.kind
      unfold i64r at hki
      clear hcell hcw ho hok
      by_cases hkl : o.kind ≤ last
      · have hst := h3.out k o wr HO.out hkl HR.out
        have hlk := fun (w3 : World) (R3 : Run os w w3 bw (k + 1)) => h4.out (k + 1) w3 hlt R3
        clear HR
        go_wp2_with fail
        refine hst.mono ?_
        rintro e3 w3 ⟨rfl, R3⟩
        have hlk' := hlk w3 R3
        have HR3 : Hid (Run os w w3 bw (k + 1)) := R3
        clear hst hlk R3 x0 x1 x2 x3 x4 x5
        go_wp2_with fail
        refine hlk'.mono ?_
        rintro e4 w4 ⟨rfl, k4⟩
        have HR4 : Hid (Run os w w4 bw (k + 1)) := h5r.out _ _ _ HR3.out k4
        clear hlk' k4 HR3
        go_wp2_with fail
        go_roundw
        case rel => exact ⟨rfl, k + 1, hlt, by go_num, HR4⟩
        case measure => simp [intOf]; omega
      · have hR3 := h6r.out k o wr HO.out HR.out
        have hlk' := h4.out (k + 1) wr hlt hR3
        have HR3 : Hid (Run os w wr bw (k + 1)) := hR3
        clear HR hR3
        go_wp2_with fail
        refine hlk'.mono ?_
        rintro e4 w4 ⟨rfl, k4⟩
        have HR4 : Hid (Run os w w4 bw (k + 1)) := h5r.out _ _ _ HR3.out k4
        clear hlk' k4 HR3
        go_wp2_with fail
        go_roundw
        case rel => exact ⟨rfl, k + 1, hlt, by go_num, HR4⟩
        case measure => simp [intOf]; omega
    · have hlt2 : ¬ (k : Int) < (os.length : Int) := by omega
      have HE : Hid _ := hend.out k wr HR.out
      clear HR
      go_wp2
      go_ret
      exact ⟨rfl, HE.out⟩

set_option maxHeartbeats 400000 in
theorem alone_any (os : List SOp) (a : Option Addr) (cap : Nat) (w : World) (hs : ScriptAt w a os) (hwt : wt os ≤ 1048576) :
    Calls Tryz.prog 3 #[.slice a os.length cap] w fun e' w' => e' = .returned (.bool true) ∧ Kept (fun _ => False) w w' := by
  have h := played_any 5 (by decide) (fun h => absurd h (by decide)) (fun h => absurd h (by decide)) os a cap w hs hwt
  go_enter Tryz.func3, Tryz.ntmps3
  go_wp2_with fail
  refine h.mono ?_
  rintro e' w' ⟨rfl, hk⟩
  have HK : Hid _ := hk
  clear h hk
  go_wp2
  go_ret
  exact ⟨rfl, HK.out⟩

end Go.Proofs.YtgfafbanahiigaaGreat
