import Derived.Test.YtgfafbanahiigaaGreatNG
import Derived.Test.YtgfafbanahiigaaGreatRC
import Derived.Test.YtgfafbanahiigaaGreatRQ
import Derived.Test.YtgfafbanahiigaaGreatRK
set_option linter.unusedVariables false
set_option linter.unusedSimpArgs false
namespace Go.Proofs.YtgfafbanahiigaaGreat
open Go.RowKit Go.Chorus
def RM (w : World) (bp : Nat) (s : RSt) (F : Nat → Prop) : Prop := (∃ rv bo vs hv, RefAt w F bp s rv bo vs hv) ∧ ∀ b, F b → b < w.heap.size
theorem RM.keep {S : Nat → Prop} {w w' : World} {bp : Nat} {s : RSt} {F : Nat → Prop} (h : RM w bp s F) (k : Kept S w w') (hS : ∀ b, F b → ¬ S b) : RM w' bp s F := by
 obtain ⟨⟨rv, bo, vs, hv, h1⟩, h2⟩ := h
 exact ⟨⟨rv, bo, vs, hv, h1.kept k hS⟩, fun b hb => Nat.lt_of_lt_of_le (h2 b hb) k.size⟩
theorem RM.quiet {w w' : World} {bp : Nat} {s : RSt} {F : Nat → Prop} (h : RM w bp s F) (k : Kept (fun _ => False) w w') : RM w' bp s F := h.keep k (fun _ _ h => h)
def RTurn (bp : Nat) (F : Nat → Prop) (w w' : World) (s' : RSt) : Prop := ∃ F', RM w' bp s' F' ∧ Kept F w w' ∧ ∀ k, F' k → F k ∨ w.heap.size ≤ k
theorem RTurn.stay {bp : Nat} {F : Nat → Prop} {w w' : World} {s : RSt} (h : RM w bp s F) (k : Kept (fun _ => False) w w') : RTurn bp F w w' s := ⟨F, h.quiet k, k.mono (fun _ _ h => h.elim), fun _ h => Or.inl h⟩
theorem RTurn.quiet {bp : Nat} {F : Nat → Prop} {w w' w'' : World} {s : RSt} (h : RTurn bp F w w' s) (k : Kept (fun _ => False) w' w'') : RTurn bp F w w'' s := by
 obtain ⟨F', a, b, c⟩ := h
 exact ⟨F', a.quiet k, b.trans k (fun _ _ h => h.elim), c⟩
theorem RTurn.after {bp : Nat} {F : Nat → Prop} {w W w' : World} {s : RSt} (k : Kept (fun _ => False) w W) (h : RTurn bp F W w' s) : RTurn bp F w w' s := by
 obtain ⟨F', a, b, c⟩ := h
 exact ⟨F', a, (k.mono (fun _ _ h => h.elim)).trans b (fun _ _ h => h), fun b hb => (c b hb).imp id (fun h => Nat.le_trans k.size h)⟩
theorem RTurn.kept {bp : Nat} {F : Nat → Prop} {w w' : World} {s : RSt} (h : RTurn bp F w w' s) : Kept F w w' := by
 obtain ⟨F', a, b, c⟩ := h
 exact b
theorem RTurn.of {bp : Nat} {F F' : Nat → Prop} {w w' : World} {s : RSt} {rv : Value} {bo : Nat} {vs : List Value} {hv : Value} (h : RefAt w' F' bp s rv bo vs hv) (h1 : ∀ b, F' b → b < w'.heap.size) (h2 : ∀ b, F' b → F b ∨ w.heap.size ≤ b) (k : Kept F w w') : RTurn bp F w w' s :=
 ⟨F', ⟨⟨rv, bo, vs, hv, h⟩, h1⟩, k, h2⟩
theorem rown_turn {w : World} {F : Nat → Prop} {bp : Nat} {s : RSt} {rv : Value} {bo : Nat} {vs : List Value} {hv : Value} (h : RefAt w F bp s rv bo vs hv) (hFl : ∀ b, F b → b < w.heap.size) (ins : Bool) (nclock npeer char : Nat) (hm : s.me < s.ops.length) (h8 : s.ops.length ≤ 8) (hR : ∀ o ∈ s.held, RightOp s.ops.length o.1) (hlen : ∀ l ∈ s.ops, l.length + s.held.length ≤ 4294967294) (hrl : s.row.length + s.held.length ≤ 4294967294) (hhl : s.held.length ≤ 65536) (hnm : nclock = 0 → npeer = 0) (hsc : s.clock < 4294967295) (hnc : nclock < 4294967296) (hnp : npeer < 256) (hch : char < 4294967296) :
  Calls Tryz.prog 48 #[.pointer (some ⟨bp, 0, none⟩), .agg #[.bool ins, .int .i64 0, .int .i64 0, .int .i64 0, .slice none 0 0, .int .i64 nclock, .int .i64 npeer, .int .i64 char, .string ⟨#[]⟩]] w fun e' w' =>
   e' = .returned (.string ⟨(s.makes ins nclock npeer char).packet.toArray⟩) ∧ ∃ sv, RTurn bp F w w' (s.deliverR (s.makes ins nclock npeer char, sv)).1 :=
 (rown_any h hFl ins nclock npeer char hm h8 hR hlen hrl hhl hnm hsc hnc hnp hch).mono fun e' w' ⟨h1, sv, F', rv', vs', hv', h2, h3, h4, h5⟩ => ⟨h1, sv, RTurn.of h2 h3 h4 h5⟩
set_option maxHeartbeats 1000000 in
set_option maxRecDepth 100000 in
theorem rinsert_front_any {w : World} {F : Nat → Prop} {bp : Nat} {s : RSt} {rv : Value} {bo : Nat} {vs : List Value} {hv : Value} (h : RefAt w F bp s rv bo vs hv) (hFl : ∀ b, F b → b < w.heap.size) (hrl : s.row.length + s.held.length ≤ 4294967294) (hm : s.me < s.ops.length) (h8 : s.ops.length ≤ 8) (hlen : ∀ l ∈ s.ops, l.length + s.held.length ≤ 4294967294) (hsc : s.clock < 4294967295) (hR : ∀ o ∈ s.held, RightOp s.ops.length o.1) (hhl : s.held.length ≤ 65536) (r : Nat) (hr2 : r < 4294967296) (hr : Lib.validRune (r : Int) = true) (hrm : roomOf s = 0) :
  Calls Tryz.prog 31 #[.pointer (some ⟨bp, 0, none⟩), .int .i64 0, .int .i64 r] w fun e' w' => e' = .returned (.tuple #[.string ⟨(s.makes true 0 0 r).packet.toArray⟩, .int .i64 0]) ∧ ∃ sv, RTurn bp F w w' (s.deliverR (s.makes true 0 0 r, sv)).1 := by
 have hlv := rlive_any h (by omega)
 have HR : Hid (RefAt w F bp s rv bo vs hv) := h
 clear h
 go_enter Tryz.func31, Tryz.ntmps31
 go_wp2_with fail
 refine hlv.mono ?_
 rintro e1 w1 ⟨lv, rfl, hl, k1, _⟩
 obtain ⟨la, lc, rfl, _⟩ := hl.cells
 have hro := rroom_any (HR.out.kept k1 (fun _ _ h => h)) hm h8
 rw [hrm] at hro
 have HK : Hid (Kept (fun _ => False) w w1) := k1
 clear hl k1 hlv
 obtain ⟨n, hn⟩ : ∃ n, (liveIdx s.row 0).length = n := ⟨_, rfl⟩
 rw [hn]
 clear hn
 have h2 : ¬ (n : Int) < 0 := by omega
 have hcr := rcharacter_any r w1 (by omega) (by omega)
 rw [hr] at hcr
 clear hr hrm
 go_wp2_with fail
 refine hcr.mono ?_
 rintro e2 w2 ⟨rfl, rfl⟩
 clear hcr
 go_wp2_with fail
 refine hro.mono ?_
 rintro e3 w3 ⟨rfl, k3⟩
 have HK2 : Hid (Kept (fun _ => False) w w3) := HK.out.trans' k3
 clear hro HK k3
 obtain ⟨W, hWe⟩ : ∃ W, W = w3.alloc (.cells #[.bool true, .int .i64 0, .int .i64 0, .int .i64 0, .slice none 0 0, .int .i64 0, .int .i64 0, .int .i64 r, .string ⟨#[]⟩] 119) := ⟨_, rfl⟩
 have kW : Kept (fun _ => False) w W := by rw [hWe]; exact HK2.out.alloc _
 have how := rown_turn (HR.out.kept kW (fun _ _ h => h)) (fun b hb => Nat.lt_of_lt_of_le (hFl b hb) kW.size) true 0 0 r hm h8 hR hlen hrl hhl (fun _ => rfl) hsc (by decide) (by decide) hr2
 have HKW : Hid (Kept (fun _ => False) w W) := kW
 clear kW HK2
 go_upto_region 13 with fail
 rw [hWe] at how
 simp only [Int.natCast_zero] at how
 go_wp2_with fail
 go_at_call_of 48 (Value.pointer (some ⟨bp, 0, none⟩))
 refine how.mono ?_
 rintro e4 w4 ⟨rfl, sv, TT⟩
 have HE : Hid (∃ sv, RTurn bp F w w4 (s.deliverR (s.makes true 0 0 r, sv)).1) := by
  rw [← hWe] at TT
  exact ⟨sv, RTurn.after HKW.out TT⟩
 clear TT how hWe
 go_wp2_with fail
 go_ret2
 exact ⟨rfl, HE.out⟩
set_option maxHeartbeats 1000000 in
set_option maxRecDepth 100000 in
theorem rinsert_behind_any {w : World} {F : Nat → Prop} {bp : Nat} {s : RSt} {rv : Value} {bo : Nat} {vs : List Value} {hv : Value} (h : RefAt w F bp s rv bo vs hv) (hFl : ∀ b, F b → b < w.heap.size) (hrl : s.row.length + s.held.length ≤ 4294967294) (hm : s.me < s.ops.length) (h8 : s.ops.length ≤ 8) (hlen : ∀ l ∈ s.ops, l.length + s.held.length ≤ 4294967294) (hsc : s.clock < 4294967295) (hR : ∀ o ∈ s.held, RightOp s.ops.length o.1) (hhl : s.held.length ≤ 65536) (r : Nat) (hr2 : r < 4294967296) (hr : Lib.validRune (r : Int) = true) (hrm : roomOf s = 0) (k i : Nat) (hk : (liveIdx s.row 0)[k]? = some i) (e : El) (hek : s.row[i]? = some e) (hec : e.clock < 4294967296) (hep : e.peer < 256) (hez : e.clock = 0 → e.peer = 0) :
  Calls Tryz.prog 31 #[.pointer (some ⟨bp, 0, none⟩), .int .i64 ((k : Int) + 1), .int .i64 r] w fun e' w' => e' = .returned (.tuple #[.string ⟨(s.makes true e.clock e.peer r).packet.toArray⟩, .int .i64 0]) ∧ ∃ sv, RTurn bp F w w' (s.deliverR (s.makes true e.clock e.peer r, sv)).1 := by
 have hlv := rlive_any h (by omega)
 have HR : Hid (RefAt w F bp s rv bo vs hv) := h
 clear h
 go_enter Tryz.func31, Tryz.ntmps31
 go_wp2_with fail
 refine hlv.mono ?_
 rintro e1 w1 ⟨lv, rfl, hl, k1, _⟩
 obtain ⟨la, lc, rfl, hlc⟩ := hl.cells
 obtain ⟨lg, rfl, l1⟩ := hlc k i hk
 clear hlc
 have hro := rroom_any (HR.out.kept k1 (fun _ _ h => h)) hm h8
 rw [hrm] at hro
 have HK : Hid (Kept (fun _ => False) w w1) := k1
 clear hl k1 hlv
 obtain ⟨n, hn⟩ : ∃ n, (liveIdx s.row 0).length = n := ⟨_, rfl⟩
 rw [hn]
 have hkn : k < n := by rw [← hn]; exact (List.getElem?_eq_some_iff.1 hk).1
 clear hn
 have h1 : ¬ (k : Int) + 1 < 0 := by omega
 have h2 : ¬ (n : Int) < (k : Int) + 1 := by omega
 have hli : (liveIdx s.row 0).length ≤ s.row.length := liveIdx_length _ _
 have hk32 : k < 4294967296 := by have := (List.getElem?_eq_some_iff.1 hk).1; omega
 have hcr := rcharacter_any r w1 (by omega) (by omega)
 rw [hr] at hcr
 clear hr hrm
 go_wp2_with fail
 refine hcr.mono ?_
 rintro e2 w2 ⟨rfl, rfl⟩
 clear hcr
 go_wp2_with fail
 refine hro.mono ?_
 rintro e3 w3 ⟨rfl, k3⟩
 have HK2 : Hid (Kept (fun _ => False) w w3) := HK.out.trans' k3
 have l3 := k3.cell' l1 (fun h => h)
 clear l1
 clear hro HK k3
 obtain ⟨bx, hbx⟩ : ∃ bx, w3.heap.size = bx := ⟨_, rfl⟩
 obtain ⟨W, hWe⟩ : ∃ W, W = w3.alloc (.cells #[.bool true, .int .i64 0, .int .i64 0, .int .i64 0, .slice none 0 0, .int .i64 0, .int .i64 0, .int .i64 r, .string ⟨#[]⟩] 119) := ⟨_, rfl⟩
 have k3W : Kept (fun _ => False) w3 W := by rw [hWe]; exact (Kept.refl _ _).alloc _
 have kW : Kept (fun _ => False) w W := HK2.out.trans' k3W
 have hbox : W.heap[bx]? = some (.cells #[.bool true, .int .i64 0, .int .i64 0, .int .i64 0, .slice none 0 0, .int .i64 0, .int .i64 0, .int .i64 r, .string ⟨#[]⟩] 119 (0, 0)) := by rw [hWe, ← hbx]; exact heap_alloc_new w3 _
 have hbw : w.heap.size ≤ bx := by rw [← hbx]; exact HK2.out.size
 have lW := k3W.cell' l3 (fun h => h)
 obtain ⟨cp, g, hrv, heg⟩ : ∃ cp g, rv = .slice (some ⟨g, 0, none⟩) s.row.length cp ∧ RElemsAt w g s.row := by
  obtain ⟨a, cp, h1, h2⟩ := relems_of_own HR.out.row
  obtain ⟨g, rfl, h3⟩ := h2 (by intro h; rw [h] at hek; simp at hek)
  exact ⟨cp, g, h1, h3⟩
 subst hrv
 have c3 := HR.out.cells.2.2.2.1
 have hil : i < s.row.length := (List.getElem?_eq_some_iff.1 hek).1
 have hii : (i : Int) < (s.row.length : Int) := by omega
 have hkni : (k : Int) < (n : Int) := by omega
 have hwr : IntKind.i64.wrap ((k : Int) + 1 - 1) = (k : Int) := by rw [IntKind.wrap_i64]; omega
 obtain ⟨e0, e1, _, _⟩ := heg i e hek
 clear heg hk hek l3 HK2 k3W
 go_upto_region 12 with fail
 rw [← hWe]
 clear hWe hbx
 go_cut [47] (fun _ wd => wd.heap[bx]? = some (.cells #[.bool true, .int .i64 0, .int .i64 0, .int .i64 0, .slice none 0 0, .int .i64 e.clock, .int .i64 e.peer, .int .i64 r, .string ⟨#[]⟩] 119 (0, 0)) ∧ Kept (fun _ => False) w wd)
 case first =>
  refine wp_region_tailB (by kernel_rfl) 12 _ rfl (by kernel_rfl) (fun _ => False) 11 (fun i' v w1 => match i' with
   | 0 => v = .pointer (some ⟨bp, 0, none⟩)
   | 1 => v = .pointer (some ⟨bp, 0, none⟩)
   | 2 => v = .pointer (some ⟨bp, 3, none⟩)
   | 3 => v = .slice (some ⟨g, 0, none⟩) s.row.length cp
   | 4 => v = .slice (some ⟨lg, 0, none⟩) n lc
   | 5 => v = .int .i64 ((k : Int) + 1)
   | 6 => v = .int .i64 k
   | 7 => v = .pointer (some ⟨lg, k, none⟩)
   | 8 => v = .int .i64 i
   | 9 => v = .pointer (some ⟨g, i * 4, none⟩)
   | 10 => v = .pointer (some ⟨g, i * 4, none⟩)
   | 11 => v = .agg #[.int .i64 e.clock, .int .i64 e.peer]
   | _ => True) ?_ ?_ ?_ ?_ ?_
  ·intro i' v wa wb hv' hk'
   split at hv'
   all_goals exact hv'
  ·intro i' v wa wb hi' hv' hk'
   split at hv'
   all_goals exact hv'
  ·intro i' o' hi12 hi11 hi a' w1 hk' up
   have hkk : Kept (fun _ => False) W w1 := ((Kept.refl _ W).drew).trans' hk'
   have y3 := (kW.trans' hkk).cell' c3 (fun h => h)
   have yl := hkk.cell' lW (fun h => h)
   have z0 := (kW.trans' hkk).cell' e0 (fun h => h)
   have z1 := (kW.trans' hkk).cell' e1 (fun h => h)
   have hold : ∀ d : Nat, (d = 0 ∨ d = 1 ∨ d = 8) → a'.tmps[d]? = _ := fun d hd => up.old d (by
    intro j oj hj hjd
    exfalso
    rcases j with _ | _ | _ | _ | _ | _ | _ | _ | _ | _ | _ | _ | _ | _ | j <;> simp at hj <;> subst hj <;> simp at hjd <;> omega)
   have o0 := hold 0 (by decide)
   have o1 := hold 1 (by decide)
   have o8 := hold 8 (by decide)
   simp at o0 o1 o8
   clear hold
   rcases i' with _ | _ | _ | _ | _ | _ | _ | _ | _ | _ | _ | _ | i'
   all_goals simp only [List.getElem?_cons_zero, List.getElem?_cons_succ, List.getElem?_nil, Option.some.injEq, reduceCtorEq] at hi
   all_goals try subst hi
   ·simp [Oper.wp, go_sem, Act.eval, o0]
    exact ⟨_, rfl, rfl, Kept.refl _ _⟩
   ·obtain ⟨_, s0, rfl⟩ := up.d 0 35 rfl rfl
    simp [Oper.wp, go_sem, Act.eval, s0]
    exact ⟨_, rfl, rfl, Kept.refl _ _⟩
   ·obtain ⟨_, s1, rfl⟩ := up.d 1 36 rfl rfl
    simp [Oper.wp, go_sem, Act.eval, s1]
    exact ⟨_, rfl, rfl, Kept.refl _ _⟩
   ·obtain ⟨_, s2, rfl⟩ := up.d 2 37 rfl rfl
    simp [Oper.wp, go_sem, Act.eval, s2, y3]
    exact ⟨_, rfl, rfl, Kept.refl _ _⟩
   ·simp [Oper.wp, go_sem, Act.eval, o8]
    exact ⟨_, rfl, rfl, Kept.refl _ _⟩
   ·simp [Oper.wp, go_sem, Act.eval, o1]
    exact ⟨_, rfl, rfl, Kept.refl _ _⟩
   ·obtain ⟨_, s5, rfl⟩ := up.d 5 40 rfl rfl
    simp [Oper.wp, go_sem, Act.eval, s5]
    exact ⟨_, rfl, by first | rfl | (congr 1; rw [IntKind.wrap_i64]; omega) | (congr 1; omega), Kept.refl _ _⟩
   ·obtain ⟨_, s4, rfl⟩ := up.d 4 39 rfl rfl
    obtain ⟨_, s6, rfl⟩ := up.d 6 41 rfl rfl
    simp [Oper.wp, go_sem, Act.eval, s4, s6, hkni, hkn]
    exact ⟨_, rfl, rfl, Kept.refl _ _⟩
   ·obtain ⟨_, s7, rfl⟩ := up.d 7 42 rfl rfl
    simp [Oper.wp, go_sem, Act.eval, s7, yl]
    exact ⟨_, rfl, rfl, Kept.refl _ _⟩
   ·obtain ⟨_, s3, rfl⟩ := up.d 3 38 rfl rfl
    obtain ⟨_, s8, rfl⟩ := up.d 8 43 rfl rfl
    simp [Oper.wp, go_sem, Act.eval, s3, s8, hii, hil]
    exact ⟨_, rfl, rfl, Kept.refl _ _⟩
   ·obtain ⟨_, s9, rfl⟩ := up.d 9 44 rfl rfl
    simp [Oper.wp, go_sem, Act.eval, s9]
    exact ⟨_, rfl, rfl, Kept.refl _ _⟩
   ·exact absurd rfl hi11
   ·omega
  ·intro o' _ ho a' w1 hk' up
   have hkk : Kept (fun _ => False) W w1 := ((Kept.refl _ W).drew).trans' hk'
   have z0 := (kW.trans' hkk).cell' e0 (fun h => h)
   have z1 := (kW.trans' hkk).cell' e1 (fun h => h)
   simp only [List.getElem?_cons_zero, List.getElem?_cons_succ, List.getElem?_nil, Option.some.injEq, reduceCtorEq] at ho
   subst ho
   obtain ⟨_, s10, rfl⟩ := up.d 10 45 rfl rfl
   simp [Oper.wp, go_sem, Act.eval, s10, z0, z1]
   exact ⟨_, rfl, rfl, Kept.refl _ _⟩
  ·intro vals w1 hk' hvv
   have h11 : vals 11 = _ := hvv 11 (by decide)
   have hkk : Kept (fun _ => False) W w1 := ((Kept.refl _ W).drew).trans' hk'
   have hb1 := hkk.heap hbox (fun h => h)
   have xz := lt_of_heap hb1
   have xf : ∀ j, w1.frozen? ⟨bx, j, none⟩ = false := Lib.frozen_of_heap hb1
   have xc5 : w1.cell? ⟨bx, 5, none⟩ = some (.int .i64 0) := by rw [Lib.cell_of_heap hb1]; rfl
   have xc6 : w1.cell? ⟨bx, 6, none⟩ = some (.int .i64 0) := by rw [Lib.cell_of_heap hb1]; rfl
   have HE : Hid (((w1.setCell ⟨bx, 5, none⟩ (.int .i64 e.clock)).setCell ⟨bx, 6, none⟩ (.int .i64 e.peer)).heap[bx]? = some (.cells #[.bool true, .int .i64 0, .int .i64 0, .int .i64 0, .slice none 0 0, .int .i64 e.clock, .int .i64 e.peer, .int .i64 r, .string ⟨#[]⟩] 119 (0, 0)) ∧ Kept (fun _ => False) w ((w1.setCell ⟨bx, 5, none⟩ (.int .i64 e.clock)).setCell ⟨bx, 6, none⟩ (.int .i64 e.peer))) := by
    refine ⟨?_, Kept.setCell (Kept.setCell (kW.trans' hkk) (p := ⟨bx, 5, none⟩) (fun h => absurd h (by show ¬ bx < _; omega)) _) (p := ⟨bx, 6, none⟩) (fun h => absurd h (by show ¬ bx < _; omega)) _⟩
    have h5 := heap_set_same hb1 5 (.int .i64 e.clock)
    rw [heap_set_same h5]; rfl
   clear hvv hkk hk' hb1
   simp only [List.take_succ_cons, List.take_zero, List.drop_succ_cons, List.drop_zero, putAll, Act.put, h11]
   simp only [Nat.reduceAdd, Nat.zero_add, List.setIfInBounds_toArray, List.set_cons_succ, List.set_cons_zero]
   go_wp2_with fail
   go_meet
   exact HE.out
 case rest =>
 obtain ⟨w4, hw4⟩ : ∃ x, x = wc := ⟨_, rfl⟩
 subst hw4
 obtain ⟨hb4, k4⟩ := hcut
 clear hbox kW
 have how := rown_turn (HR.out.kept k4 (fun _ _ h => h)) (fun b hb => Nat.lt_of_lt_of_le (hFl b hb) k4.size) true e.clock e.peer r hm h8 hR hlen hrl hhl hez hsc hec hep hr2
 have b0 : w4.cell? ⟨bx, 0, none⟩ = some (.bool true) := by rw [Lib.cell_of_heap hb4]; rfl
 have b1 : w4.cell? ⟨bx, 1, none⟩ = some (.int .i64 0) := by rw [Lib.cell_of_heap hb4]; rfl
 have b2 : w4.cell? ⟨bx, 2, none⟩ = some (.int .i64 0) := by rw [Lib.cell_of_heap hb4]; rfl
 have b3 : w4.cell? ⟨bx, 3, none⟩ = some (.int .i64 0) := by rw [Lib.cell_of_heap hb4]; rfl
 have b4 : w4.cell? ⟨bx, 4, none⟩ = some (.slice none 0 0) := by rw [Lib.cell_of_heap hb4]; rfl
 have b5 : w4.cell? ⟨bx, 5, none⟩ = some (.int .i64 e.clock) := by rw [Lib.cell_of_heap hb4]; rfl
 have b6 : w4.cell? ⟨bx, 6, none⟩ = some (.int .i64 e.peer) := by rw [Lib.cell_of_heap hb4]; rfl
 have b7 : w4.cell? ⟨bx, 7, none⟩ = some (.int .i64 r) := by rw [Lib.cell_of_heap hb4]; rfl
 have b8 : w4.cell? ⟨bx, 8, none⟩ = some (.string ⟨#[]⟩) := by rw [Lib.cell_of_heap hb4]; rfl
 have xz := lt_of_heap hb4
 have HK4 : Hid (Kept (fun _ => False) w w4) := k4
 clear hb4 k4 e0 e1 lW c3
 go_wp2_with fail
 go_at_call_of 48 (Value.pointer (some ⟨bp, 0, none⟩))
 refine how.mono ?_
 rintro e5 w5 ⟨rfl, sv, TT⟩
 have HE : Hid (∃ sv, RTurn bp F w w5 (s.deliverR (s.makes true e.clock e.peer r, sv)).1) :=
  ⟨sv, RTurn.after HK4.out TT⟩
 clear TT how
 go_wp2_with fail
 go_ret2
 exact ⟨rfl, HE.out⟩
set_option maxHeartbeats 1000000 in
set_option maxRecDepth 100000 in
theorem rdelete_ok_any {w : World} {F : Nat → Prop} {bp : Nat} {s : RSt} {rv : Value} {bo : Nat} {vs : List Value} {hv : Value} (h : RefAt w F bp s rv bo vs hv) (hFl : ∀ b, F b → b < w.heap.size) (hrl : s.row.length + s.held.length ≤ 4294967294) (hm : s.me < s.ops.length) (h8 : s.ops.length ≤ 8) (hlen : ∀ l ∈ s.ops, l.length + s.held.length ≤ 4294967294) (hsc : s.clock < 4294967295) (hR : ∀ o ∈ s.held, RightOp s.ops.length o.1) (hhl : s.held.length ≤ 65536) (hrm : roomOf s = 0) (k i : Nat) (hk : (liveIdx s.row 0)[k]? = some i) (e : El) (hek : s.row[i]? = some e) (hec : e.clock < 4294967296) (hep : e.peer < 256) (hez : e.clock = 0 → e.peer = 0) :
  Calls Tryz.prog 33 #[.pointer (some ⟨bp, 0, none⟩), .int .i64 k] w fun e' w' => e' = .returned (.tuple #[.string ⟨(s.makes false e.clock e.peer 0).packet.toArray⟩, .int .i64 0]) ∧ ∃ sv, RTurn bp F w w' (s.deliverR (s.makes false e.clock e.peer 0, sv)).1 := by
 have hlv := rlive_any h (by omega)
 have HR : Hid (RefAt w F bp s rv bo vs hv) := h
 obtain ⟨pk, hpk⟩ : ∃ pk, (s.makes false e.clock e.peer 0).packet = pk := ⟨_, rfl⟩
 rw [hpk]
 have HPK : Hid ((s.makes false e.clock e.peer 0).packet = pk) := hpk
 clear h hpk
 go_enter Tryz.func33, Tryz.ntmps33
 go_wp2_with fail
 refine hlv.mono ?_
 rintro e1 w1 ⟨lv, rfl, hl, k1, _⟩
 obtain ⟨la, lc, rfl, hlc⟩ := hl.cells
 obtain ⟨lg, rfl, l1⟩ := hlc k i hk
 clear hlc
 have hro := rroom_any (HR.out.kept k1 (fun _ _ h => h)) hm h8
 rw [hrm] at hro
 have HK : Hid (Kept (fun _ => False) w w1) := k1
 clear hl k1 hlv
 obtain ⟨n, hn⟩ : ∃ n, (liveIdx s.row 0).length = n := ⟨_, rfl⟩
 rw [hn]
 have hkn : k < n := by rw [← hn]; exact (List.getElem?_eq_some_iff.1 hk).1
 clear hn
 have hkni : (k : Int) < (n : Int) := by omega
 have h1 : ¬ (k : Int) < 0 := by omega
 have h2 : ¬ (n : Int) ≤ (k : Int) := by omega
 clear hrm
 go_wp2_with fail
 refine hro.mono ?_
 rintro e3 w3 ⟨rfl, k3⟩
 have kW : Kept (fun _ => False) w w3 := HK.out.trans' k3
 have lW := k3.cell' l1 (fun h => h)
 clear hro HK k3 l1
 obtain ⟨cp, g, hrv, heg⟩ : ∃ cp g, rv = .slice (some ⟨g, 0, none⟩) s.row.length cp ∧ RElemsAt w g s.row := by
  obtain ⟨a, cp, h1, h2⟩ := relems_of_own HR.out.row
  obtain ⟨g, rfl, h3⟩ := h2 (by intro h; rw [h] at hek; simp at hek)
  exact ⟨cp, g, h1, h3⟩
 subst hrv
 have c3 := HR.out.cells.2.2.2.1
 have hil : i < s.row.length := (List.getElem?_eq_some_iff.1 hek).1
 have hii : (i : Int) < (s.row.length : Int) := by omega
 obtain ⟨e0, e1, _, _⟩ := heg i e hek
 clear heg hk hek
 go_upto_region 7 with fail
 go_cut [4, 5] (fun v u wd => v = .string ⟨pk.toArray⟩ ∧ u = .int .i64 0 ∧ Hid (∃ sv, RTurn bp F w wd (s.deliverR (s.makes false e.clock e.peer 0, sv)).1))
 case first =>
  refine wp_region_tailQ (by kernel_rfl) 14 _ rfl (by kernel_rfl) F 13 (by kernel_rfl) rfl (fun i' v w1 => match i' with
   | 0 => v = .pointer (some ⟨bp, 0, none⟩)
   | 1 => v = .pointer (some ⟨bp, 0, none⟩)
   | 2 => v = .pointer (some ⟨bp, 0, none⟩)
   | 3 => v = .pointer (some ⟨bp, 3, none⟩)
   | 4 => v = .slice (some ⟨g, 0, none⟩) s.row.length cp
   | 5 => v = .slice (some ⟨lg, 0, none⟩) n lc
   | 6 => v = .int .i64 k
   | 7 => v = .pointer (some ⟨lg, k, none⟩)
   | 8 => v = .int .i64 i
   | 9 => v = .pointer (some ⟨g, i * 4, none⟩)
   | 10 => v = .pointer (some ⟨g, i * 4, none⟩)
   | 11 => v = .agg #[.int .i64 e.clock, .int .i64 e.peer]
   | 12 => v = .agg #[.bool false, .int .i64 0, .int .i64 0, .int .i64 0, .slice none 0 0, .int .i64 e.clock, .int .i64 e.peer, .int .i64 0, .string ⟨#[]⟩]
   | 13 => Hid (v = .string ⟨pk.toArray⟩ ∧ ∃ sv, RTurn bp F w w1 (s.deliverR (s.makes false e.clock e.peer 0, sv)).1)
   | _ => True) ?_ ?_ ?_ ?_ ?_
  ·intro i' v wa wb hv' hk'
   split at hv'
   case h_14 =>
    obtain ⟨h1, sv, TT⟩ := hv'.out
    exact ⟨h1, sv, TT.quiet hk'⟩
   all_goals exact hv'
  ·intro i' v wa wb hi' hv' hk'
   split at hv'
   case h_14 => exact absurd rfl hi'
   all_goals exact hv'
  ·intro i' o' hi14 hi13 hi a' w1 hk' up
   have hkk : Kept (fun _ => False) w3 w1 := ((Kept.refl _ w3).drew).trans' hk'
   have y3 := (kW.trans' hkk).cell' c3 (fun h => h)
   have yl := hkk.cell' lW (fun h => h)
   have z0 := (kW.trans' hkk).cell' e0 (fun h => h)
   have z1 := (kW.trans' hkk).cell' e1 (fun h => h)
   have hold : ∀ d : Nat, (d = 0 ∨ d = 1 ∨ d = 6) → a'.tmps[d]? = _ := fun d hd => up.old d (by
    intro j oj hj hjd
    exfalso
    rcases j with _ | _ | _ | _ | _ | _ | _ | _ | _ | _ | _ | _ | _ | _ | _ | _ | j <;> simp at hj <;> subst hj <;> simp at hjd <;> omega)
   have o0 := hold 0 (by decide)
   have o1 := hold 1 (by decide)
   have o6 := hold 6 (by decide)
   simp at o0 o1 o6
   clear hold
   rcases i' with _ | _ | _ | _ | _ | _ | _ | _ | _ | _ | _ | _ | _ | _ | i'
   all_goals simp only [List.getElem?_cons_zero, List.getElem?_cons_succ, List.getElem?_nil, Option.some.injEq, reduceCtorEq] at hi
   all_goals try subst hi
   ·simp [Oper.wp, go_sem, Act.eval, o0]
    exact ⟨_, rfl, rfl, Kept.refl _ _⟩
   ·simp [Oper.wp, go_sem, Act.eval, o0]
    exact ⟨_, rfl, rfl, Kept.refl _ _⟩
   ·obtain ⟨_, s1, rfl⟩ := up.d 1 24 rfl rfl
    simp [Oper.wp, go_sem, Act.eval, s1]
    exact ⟨_, rfl, rfl, Kept.refl _ _⟩
   ·obtain ⟨_, s2, rfl⟩ := up.d 2 25 rfl rfl
    simp [Oper.wp, go_sem, Act.eval, s2]
    exact ⟨_, rfl, rfl, Kept.refl _ _⟩
   ·obtain ⟨_, s3, rfl⟩ := up.d 3 26 rfl rfl
    simp [Oper.wp, go_sem, Act.eval, s3, y3]
    exact ⟨_, rfl, rfl, Kept.refl _ _⟩
   ·simp [Oper.wp, go_sem, Act.eval, o6]
    exact ⟨_, rfl, rfl, Kept.refl _ _⟩
   ·simp [Oper.wp, go_sem, Act.eval, o1]
    exact ⟨_, rfl, rfl, Kept.refl _ _⟩
   ·obtain ⟨_, s5, rfl⟩ := up.d 5 28 rfl rfl
    obtain ⟨_, s6, rfl⟩ := up.d 6 29 rfl rfl
    simp [Oper.wp, go_sem, Act.eval, s5, s6, hkni, hkn]
    exact ⟨_, rfl, rfl, Kept.refl _ _⟩
   ·obtain ⟨_, s7, rfl⟩ := up.d 7 30 rfl rfl
    simp [Oper.wp, go_sem, Act.eval, s7, yl]
    exact ⟨_, rfl, rfl, Kept.refl _ _⟩
   ·obtain ⟨_, s4, rfl⟩ := up.d 4 27 rfl rfl
    obtain ⟨_, s8, rfl⟩ := up.d 8 31 rfl rfl
    simp [Oper.wp, go_sem, Act.eval, s4, s8, hii, hil]
    exact ⟨_, rfl, rfl, Kept.refl _ _⟩
   ·obtain ⟨_, s9, rfl⟩ := up.d 9 32 rfl rfl
    simp [Oper.wp, go_sem, Act.eval, s9]
    exact ⟨_, rfl, rfl, Kept.refl _ _⟩
   ·obtain ⟨_, s10, rfl⟩ := up.d 10 33 rfl rfl
    simp [Oper.wp, go_sem, Act.eval, s10, z0, z1]
    exact ⟨_, rfl, rfl, Kept.refl _ _⟩
   ·obtain ⟨_, s11, rfl⟩ := up.d 11 34 rfl rfl
    simp [Oper.wp, go_sem, Act.eval, s11]
    exact ⟨_, rfl, rfl, Kept.refl _ _⟩
   ·exact absurd rfl hi13
   ·omega
  ·intro o' _ ho a' w1 hk' up
   have hkk : Kept (fun _ => False) w w1 := (kW.drew).trans' hk'
   have how := rown_turn (HR.out.kept hkk (fun _ _ h => h)) (fun b hb => Nat.lt_of_lt_of_le (hFl b hb) hkk.size) false e.clock e.peer 0 hm h8 hR hlen hrl hhl hez hsc hec hep (by decide)
   simp only [Int.natCast_zero] at how
   simp only [List.getElem?_cons_zero, List.getElem?_cons_succ, List.getElem?_nil, Option.some.injEq, reduceCtorEq] at ho
   subst ho
   obtain ⟨_, s0, rfl⟩ := up.d 0 23 rfl rfl
   obtain ⟨_, s12, rfl⟩ := up.d 12 35 rfl rfl
   simp [Oper.wp, go_sem, Act.eval, s0, s12]
   refine how.mono ?_
   rintro e5 w5 ⟨rfl, sv, TT⟩
   exact ⟨_, rfl, ⟨by rw [HPK.out], sv, RTurn.after hkk TT⟩, TT.kept⟩
  ·intro vals w1 hk' hvv
   have hv13 : Hid _ := hvv 13 (by decide)
   obtain ⟨h13, hfin⟩ := hv13.out
   clear hv13
   have HF : Hid (∃ sv, RTurn bp F w w1 (s.deliverR (s.makes false e.clock e.peer 0, sv)).1) := hfin
   clear hvv hk' hfin
   simp only [List.take_succ_cons, List.take_zero, List.drop_succ_cons, List.drop_zero, putAll, Act.put, h13]
   simp only [Nat.reduceAdd, Nat.zero_add, List.setIfInBounds_toArray, List.set_cons_succ, List.set_cons_zero]
   go_wp2_with fail
   go_meet
   exact ⟨rfl, rfl, HF⟩
 case rest =>
 obtain ⟨rfl, rfl, hfin⟩ := hcut
 clear e0 e1 lW c3
 go_wp2_with fail
 go_ret2
 exact ⟨rfl, hfin.out⟩
end Go.Proofs.YtgfafbanahiigaaGreat
