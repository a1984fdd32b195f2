import Derived.Deep.CutBlock
import Derived.Test.YtgfafbanahiigaaGreatV15
import Derived.Test.YtgfafbanahiigaaGreatNG
import Derived.Test.YtgfafbanahiigaaGreatV13
import Derived.Test.YtgfafbanahiigaaGreatVH
import Derived.Test.YtgfafbanahiigaaGreatNH
set_option linter.unusedVariables false
set_option linter.unusedSimpArgs false
namespace Go.Proofs.YtgfafbanahiigaaGreat
open Go.RowKit Go.Chorus
def live (es : List El) : List El := es.filter fun e => !e.dead
theorem live_cons (e : El) (r : List El) : live (e :: r) = if e.dead then live r else e :: live r := by
 cases h : e.dead <;> simp [live, h]
theorem liveAt_neg (es : List El) (a : Int) (h : a < 0) : liveAt es a = none := by
 induction es generalizing a with
 | nil => rfl
 | cons e r ih =>
  unfold liveAt
  split
  ·exact ih a h
  ·rw [if_neg (by omega)]; exact ih _ (by omega)
theorem liveAt_ge (es : List El) (a : Int) (h : ((live es).length : Int) ≤ a) : liveAt es a = none := by
 induction es generalizing a with
 | nil => rfl
 | cons e r ih =>
  rw [live_cons] at h
  unfold liveAt
  split
  ·rename_i hd; rw [if_pos hd] at h; exact ih a h
  ·rename_i hd
   rw [if_neg hd] at h
   simp at h
   rw [if_neg (by omega)]; exact ih _ (by omega)
theorem liveAt_lt (es : List El) (a : Int) (h0 : 0 ≤ a) (h : a < ((live es).length : Int)) : ∃ e, liveAt es a = some e := by
 induction es generalizing a with
 | nil => simp [live] at h; omega
 | cons e r ih =>
  rw [live_cons] at h
  unfold liveAt
  split
  ·rename_i hd; rw [if_pos hd] at h; exact ih a h0 h
  ·rename_i hd
   rw [if_neg hd] at h
   simp at h
   split
   ·exact ⟨_, rfl⟩
   ·exact ih _ (by omega) (by omega)
theorem liveAt_split (es : List El) (a : Int) (e : El) (h : liveAt es a = some e) : ∃ pre post, es = pre ++ e :: post ∧ e.dead = false ∧ ((live pre).length : Int) = a := by
 induction es generalizing a with
 | nil => cases h
 | cons x r ih =>
  unfold liveAt at h
  split at h
  ·rename_i hd
   obtain ⟨pre, post, rfl, h1, h2⟩ := ih a h
   exact ⟨x :: pre, post, rfl, h1, by rw [live_cons, if_pos hd]; exact h2⟩
  ·rename_i hd
   split at h
   ·rename_i ha
    cases h
    exact ⟨[], r, rfl, by simpa using hd, by simp [live, ha]⟩
   ·obtain ⟨pre, post, rfl, h1, h2⟩ := ih _ h
    exact ⟨x :: pre, post, rfl, h1, by rw [live_cons, if_neg hd]; simp; omega⟩
structure Inv (es : List El) (clock me : Nat) : Prop where
 el : ∀ e ∈ es, 1 ≤ e.clock ∧ e.clock ≤ clock ∧ e.peer = me ∧ e.Fits
 uniq : es.Pairwise (fun a b => a.clock ≠ b.clock)
theorem Alk.apply {s t : Pr} (h : Alk s t) (o : Ope) : Alk (s.apply o) (t.apply o) := by
 refine ⟨h.me, ?_, ?_, ?_, h.held, by show s.log.modify _ _ = t.log.modify _ _; rw [h.log]⟩
 ·show max s.clock o.clock = max t.clock o.clock
  rw [h.clock]
 ·show s.known.set o.peer (s.k o.peer + 1) = t.known.set o.peer (t.k o.peer + 1)
  rw [h.known, h.k]
 ·show (if o.ins then insertEl s.row _ _ _ _ _ else killEl s.row _ _) = _
  rw [h.row]; rfl
theorem sum_bump (l : List Nat) (n : Nat) (h : n < l.length) : (l.set n (l.getD n 0 + 1)).sum = l.sum + 1 := by
 induction l generalizing n with
 | nil => simp at h
 | cons a l ih =>
  cases n with
  | zero => simp; omega
  | succ n =>
   simp only [List.set_cons_succ, List.sum_cons, List.getD_cons_succ]
   rw [ih n (by simpa using h)]; omega
def ksize (s : Pr) : Nat := s.known.sum + s.held.length
theorem ksize_apply (s : Pr) (o : Ope) (h : o.peer < s.known.length) : ksize (s.apply o) = ksize s + 1 := by
 unfold ksize
 show (s.known.set o.peer (s.k o.peer + 1)).sum + s.held.length = _
 have := sum_bump s.known o.peer h
 unfold Pr.k
 omega
def ElsOk (N : Nat) (es : List El) : Prop := ∀ e ∈ es, 1 ≤ e.clock ∧ e.peer < N ∧ okRune e.char
theorem killEl_els {N : Nat} {es : List El} {c p : Nat} (h : ElsOk N es) : ElsOk N (killEl es c p) := by
 unfold killEl
 split
 ·intro e he
  obtain ⟨i, hi, rfl⟩ := List.getElem_of_mem he
  rw [List.getElem_modify]
  have hi2 : i < es.length := by simpa using hi
  have hh := h (es[i]'hi2) (List.getElem_mem _)
  split
  ·exact hh
  ·exact hh
 ·exact h
theorem insertEl_els {N : Nat} {es : List El} {c p bc bp : Nat} {ch : Int} (h : ElsOk N es) (h1 : 1 ≤ c) (h2 : p < N) (h3 : okRune ch) : ElsOk N (insertEl es c p bc bp ch) := by
 unfold insertEl
 split
 ·exact h
 ·intro e he
  simp only [List.mem_append, List.mem_cons] at he
  rcases he with he | rfl | he
  ·exact h e (List.mem_of_mem_take he)
  ·exact ⟨h1, h2, h3⟩
  ·exact h e (List.mem_of_mem_drop he)
theorem apply_els {N : Nat} {s : Pr} (h : ElsOk N s.row) {o : Ope} (ho : RightOp N o) : ElsOk N (s.apply o).row := by
 show ElsOk N (if o.ins then _ else _)
 split
 ·next hi =>
  have hc := ho.char
  rw [if_pos hi] at hc
  exact insertEl_els h ho.clock.1 ho.peer (by unfold okRune; omega)
 ·exact killEl_els h
def LogP (log : List (List Ope)) : Prop := ∀ (j : Nat) (l : List Ope), log[j]? = some l → ∀ o ∈ l, o.peer = j
theorem LogP.apply {s : Pr} (h : LogP s.log) (o : Ope) : LogP (s.apply o).log := fun j l hl x hx => by
 have hl : (s.log.modify o.peer (· ++ [o]))[j]? = some l := hl
 rw [List.getElem?_modify] at hl
 split at hl
 ·next e =>
  cases hs : s.log[j]? with
  | none => rw [hs] at hl; cases hl
  | some r =>
   rw [hs] at hl
   simp only [Option.map_eq_map, Option.map_some, Option.some.injEq] at hl
   subst hl
   rcases List.mem_append.1 hx with hx | hx
   ·exact h j r hs x hx
   ·rw [List.mem_singleton.1 hx]; exact e
 ·exact h j l (by simpa using hl) x hx
theorem settleF_more {N : Nat} : ∀ (f : Nat) (s : Pr), Fit N s → ElsOk N s.row → ElsOk N (settleF f s).1.row ∧ ksize (settleF f s).1 ≤ ksize s ∧ (settleF f s).1.me = s.me ∧ (LogP s.log → LogP (settleF f s).1.log) := by
 intro f
 induction f with
 | zero => intro s h e; exact ⟨e, Nat.le_refl _, rfl, fun h => h⟩
 | succ f ih =>
  intro s h e
  unfold settleF
  cases hf : s.firstCan with
  | none => exact ⟨e, Nat.le_refl _, rfl, fun h => h⟩
  | some x =>
   obtain ⟨i, o⟩ := x
   obtain ⟨_, hi, hc⟩ := firstGo_mem s s.held 0 (i, o) hf
   simp only [Nat.sub_zero] at hi hc
   have hil : i < s.held.length := (List.getElem?_eq_some_iff.1 hi).1
   have hel : (s.held.eraseIdx i).length = s.held.length - 1 := List.length_eraseIdx_of_lt hil
   have ho := h.held o (List.mem_of_getElem? hi)
   have h1 : Fit N ({ s with held := s.held.eraseIdx i } : Pr) := ⟨h.len, h.n1, h.n8, h.me, h.known, h.clock, fun o ho => h.held o (List.mem_of_mem_eraseIdx ho), by have := h.most; show (s.held.eraseIdx i).length ≤ 16; omega, h.row, h.log⟩
   have h2 := h1.apply ho ((can_iff s o).1 hc).1
   obtain ⟨a, b, c, d⟩ := ih _ h2 (apply_els (s := { s with held := s.held.eraseIdx i }) e ho)
   have h3 := ksize_apply ({ s with held := s.held.eraseIdx i } : Pr) o (by show o.peer < s.known.length; rw [h.len]; exact ho.peer)
   refine ⟨a, Nat.le_trans b ?_, c, fun hl => d (LogP.apply (s := { s with held := s.held.eraseIdx i }) hl o)⟩
   rw [h3]
   unfold ksize
   show s.known.sum + (s.held.eraseIdx i).length + 1 ≤ _
   omega
structure Two (N M : Nat) (s : Pr) (t : RSt) : Prop where
 fit : Fit N s
 alk : Alk s t.pr
 inRow : InRow s.held
 els : ElsOk N s.row
 len : psize s ≤ M
 few : ksize s ≤ M
 lp : LogP s.log
theorem Two.more {N M M' : Nat} {s : Pr} {t : RSt} (h : Two N M s t) (hM : M ≤ M') : Two N M' s t :=
 ⟨h.fit, h.alk, h.inRow, h.els, Nat.le_trans h.len hM, Nat.le_trans h.few hM, h.lp⟩
theorem Two.me {N M : Nat} {s : Pr} {t : RSt} (h : Two N M s t) : t.me = s.me := h.alk.me.symm
theorem Two.clock {N M : Nat} {s : Pr} {t : RSt} (h : Two N M s t) : t.clock = s.clock := h.alk.clock.symm
theorem Two.row {N M : Nat} {s : Pr} {t : RSt} (h : Two N M s t) : t.row = s.row := h.alk.row.symm
theorem Two.known {N M : Nat} {s : Pr} {t : RSt} (h : Two N M s t) : t.known = s.known := h.alk.known.symm
theorem Two.held {N M : Nat} {s : Pr} {t : RSt} (h : Two N M s t) : s.held.Perm (t.held.map Prod.fst) := h.alk.held
theorem Two.opsN {N M : Nat} {s : Pr} {t : RSt} (h : Two N M s t) : t.ops.length = N := by
 have h1 := congrArg List.length h.known
 rw [h.fit.len] at h1
 simpa [RSt.known] using h1
theorem sum_mem {l : List Nat} {n : Nat} (h : n ∈ l) : n ≤ l.sum := by
 induction l with
 | nil => cases h
 | cons a r ih =>
  rw [List.sum_cons]
  rcases List.mem_cons.1 h with rfl | h
  ·omega
  ·have := ih h; omega
theorem Two.rowLen {N M : Nat} {s : Pr} {t : RSt} (h : Two N M s t) : s.row.length ≤ M := by
 have := h.len
 unfold psize at this
 omega
theorem Two.k {N M : Nat} {s : Pr} {t : RSt} (h : Two N M s t) : (t.known[t.me]?).getD 0 = s.k s.me := by
 rw [h.known, h.me]; unfold Pr.k; rw [List.getD_eq_getElem?_getD]
theorem Two.heldR {N M : Nat} {s : Pr} {t : RSt} (h : Two N M s t) : ∀ o ∈ t.held, RightOp N o.1 := fun o ho =>
 h.fit.held o.1 (h.held.mem_iff.2 (List.mem_map_of_mem ho))
theorem Two.heldLen {N M : Nat} {s : Pr} {t : RSt} (h : Two N M s t) : t.held.length = s.held.length := by
 have := h.held.length_eq
 simpa using this.symm
theorem Two.in_ {N M : Nat} {s : Pr} {t : RSt} (h : Two N M s t) : t.In := fun o ho => by rw [h.opsN]; exact (h.heldR o ho).peer
theorem Two.deliver {N M : Nat} {s : Pr} {t : RSt} (h : Two N M s t) {o : Ope} (ho : RightOp N o) (hc : o.num = s.k o.peer + 1) (sv : Value) :
  Two N (M + 1) (s.deliverF o).1 (t.deliverR (o, sv)).1 ∧ (s.deliverF o).2 = (t.deliverR (o, sv)).2 := by
 have hp : o.peer < t.ops.length := by rw [h.opsN]; exact ho.peer
 obtain ⟨d1, d2⟩ := deliverR_pr t h.in_ (o, sv) hp
 obtain ⟨a, b, c⟩ := settleF_sim s.held.length _ _ (Alk.apply h.alk o) h.inRow
 have hl : t.pr.held.length = s.held.length := h.held.length_eq.symm
 have hfit := h.fit.apply ho hc
 obtain ⟨f1, f2⟩ := settleF_fit s.held.length _ hfit
 obtain ⟨g1, g2, _, g4⟩ := settleF_more s.held.length _ hfit (apply_els h.els ho)
 have e1 : (t.pr.deliver o).1 = (Go.Chorus.settle s.held.length (t.pr.apply o)).1 := by unfold Pr.deliver; rw [hl]
 have e2 : (t.pr.deliver o).2 = (Go.Chorus.settle s.held.length (t.pr.apply o)).2 + 1 := by unfold Pr.deliver; rw [hl]
 refine ⟨⟨f1, ?_, b, g1, ?_, ?_, g4 (h.lp.apply o)⟩, ?_⟩
 ·rw [d1, e1]; exact a
 ·have := size_apply s o
  have := h.len
  exact Nat.le_trans f2 (by omega)
 ·have := ksize_apply s o (by rw [h.fit.len]; exact ho.peer)
  have := h.few
  exact Nat.le_trans g2 (by omega)
 ·rw [d2, e2, ← c]; rfl
theorem Two.room {N M : Nat} {s : Pr} {t : RSt} (h : Two N M s t) : roomOf t = roomP s := by
 unfold roomOf roomP
 rw [h.k, h.clock]
theorem Two.opsLen2 {N M : Nat} {s : Pr} {t : RSt} (h : Two N M s t) : ∀ l ∈ t.ops, l.length + t.held.length ≤ M := fun l hl => by
 have h1 : l.length ∈ t.known := by simp only [RSt.known, List.mem_map]; exact ⟨l, hl, rfl⟩
 rw [h.known] at h1
 have h2 := sum_mem h1
 have h3 := h.few
 rw [h.heldLen]
 unfold ksize at h3
 omega
theorem Two.makes {N M : Nat} {s : Pr} {t : RSt} (h : Two N M s t) (ins : Bool) (c p ch : Nat) : t.makes ins c p ch = s.makes ins (c, p) ch := by
 unfold RSt.makes Pr.makes
 rw [h.k, h.known, h.me, h.clock]
theorem liveIdx_live (es : List El) (q : Nat) : (liveIdx es q).length = (live es).length := by
 induction es generalizing q with
 | nil => rfl
 | cons e r ih =>
  unfold liveIdx
  rw [live_cons]
  split
  ·exact ih _
  ·simp [ih]
theorem liveAt_idx (es : List El) (q : Nat) (k : Nat) (e : El) (h : liveAt es (k : Int) = some e) : ∃ i, (liveIdx es q)[k]? = some (q + i) ∧ es[i]? = some e := by
 induction es generalizing q k with
 | nil => cases h
 | cons x r ih =>
  unfold liveAt at h
  unfold liveIdx
  split at h
  ·next hd =>
   rw [if_pos hd]
   obtain ⟨i, h1, h2⟩ := ih (q + 1) k h
   exact ⟨i + 1, by rw [h1]; congr 1; omega, by simpa using h2⟩
  ·next hd =>
   rw [if_neg hd]
   split at h
   ·next h0 =>
    have : k = 0 := by omega
    subst this
    cases h
    exact ⟨0, rfl, rfl⟩
   ·next h0 =>
    obtain ⟨j, rfl⟩ : ∃ j, k = j + 1 := ⟨k - 1, by omega⟩
    have e1 : ((j + 1 : Nat) : Int) - 1 = (j : Int) := by omega
    rw [e1] at h
    obtain ⟨i, h1, h2⟩ := ih (q + 1) j h
    exact ⟨i + 1, by rw [List.getElem?_cons_succ, h1]; congr 1; omega, by simpa using h2⟩
theorem liveAt_mem {es : List El} {a : Int} {e : El} (h : liveAt es a = some e) : e ∈ es := by
 obtain ⟨pre, post, rfl, _⟩ := liveAt_split es a e h
 simp
theorem valid_nat {ch : Int} (h : Lib.validRune ch = true) : ∃ r : Nat, ch = r ∧ (r < 55296 ∨ (57344 ≤ r ∧ r ≤ 1114111)) := by
 unfold Lib.validRune at h
 simp at h
 exact ⟨ch.toNat, by omega, by omega⟩
theorem Two.right {N M : Nat} {s : Pr} {t : RSt} (h : Two N M s t) (ins : Bool) (c p ch : Nat) (hr : roomP s = 0) (hn : (ins = true ∧ c = 0 ∧ p = 0) ∨ ∃ e ∈ s.row, e.clock = c ∧ e.peer = p) (hc : if ins then (ch < 55296 ∨ (57344 ≤ ch ∧ ch ≤ 1114111)) else ch = 0) :
  RightOp N (s.makes ins (c, p) ch) ∧ s.k s.me < 400 ∧ s.clock < 4294967295 := by
 have h1 : s.k s.me < 400 ∧ s.clock < 4294967295 := by
  unfold roomP at hr
  split at hr
  ·omega
  ·split at hr
   ·omega
   ·omega
 have hf := h.fit
 have hnm : c < 4294967296 ∧ p < N ∧ (c = 0 → ins = true ∧ p = 0) := by
  rcases hn with ⟨h1, rfl, rfl⟩ | ⟨e, he, rfl, rfl⟩
  ·exact ⟨by decide, Nat.lt_of_lt_of_le Nat.zero_lt_one hf.n1, fun _ => ⟨h1, rfl⟩⟩
  ·have := h.els e he
   exact ⟨(hf.row e he).1, this.2.1, fun h0 => by omega⟩
 refine ⟨⟨hf.n8, hf.me, ⟨by show 1 ≤ s.k s.me + 1; omega, by show s.k s.me + 1 < _; omega⟩, ⟨by show 1 ≤ s.clock + 1; omega, by show s.clock + 1 < _; omega⟩, hf.len, hf.known, rfl, ⟨hnm.1, hnm.2.1⟩, hnm.2.2, hc⟩, h1⟩
def Both (ci cr : Nat) (ax ay : Array Value) (N M : Nat) (s : Pr) (t : RSt) : Prop :=
 ∃ (bs : List UInt8) (er : Int) (s' : Pr), (er = 0 → Right N bs) ∧
  (∀ w bx F, PM w bx s F → Calls Tryz.prog ci (#[.pointer (some ⟨bx, 0, none⟩)] ++ ax) w fun e' w' => e' = .returned (.tuple #[.string ⟨bs.toArray⟩, .int .i64 er]) ∧ Turn bx F w w' s') ∧
  (∀ w by_ G, RM w by_ t G → Calls Tryz.prog cr (#[.pointer (some ⟨by_, 0, none⟩)] ++ ay) w fun e' w' => e' = .returned (.tuple #[.string ⟨bs.toArray⟩, .int .i64 er]) ∧ ∃ t', Two N (M + 1) s' t' ∧ RTurn by_ G w w' t')
theorem both_refuse {ci cr : Nat} {ax ay : Array Value} {N M : Nat} {s : Pr} {t : RSt} (h : Two N M s t) (er : Int) (he : er ≠ 0)
  (hx : ∀ w bx F, PM w bx s F → Calls Tryz.prog ci (#[.pointer (some ⟨bx, 0, none⟩)] ++ ax) w fun e' w' => e' = .returned (.tuple #[.string ⟨#[]⟩, .int .i64 er]) ∧ Kept (fun _ => False) w w')
  (hy : ∀ w by_ G, RM w by_ t G → Calls Tryz.prog cr (#[.pointer (some ⟨by_, 0, none⟩)] ++ ay) w fun e' w' => e' = .returned (.tuple #[.string ⟨#[]⟩, .int .i64 er]) ∧ Kept (fun _ => False) w w') : Both ci cr ax ay N M s t := by
 refine ⟨[], er, s, fun h0 => absurd h0 he, fun w bx F hP => (hx w bx F hP).mono ?_, fun w by_ G hR => (hy w by_ G hR).mono ?_⟩
 ·rintro e' w' ⟨h1, h2⟩
  exact ⟨h1, Turn.stay hP h2⟩
 ·rintro e' w' ⟨h1, h2⟩
  exact ⟨h1, t, h.more (Nat.le_succ _), RTurn.stay hR h2⟩
theorem both_insert {N M : Nat} {s : Pr} {t : RSt} (h : Two N M s t) (hM : M ≤ 4294967290) (at_ ch : Int) (ha1 : -9223372036854775808 ≤ at_) (ha2 : at_ ≤ 9223372036854775807) (hc1 : -2147483648 ≤ ch) (hc2 : ch ≤ 2147483647) :
  Both 30 31 #[.int .i64 at_, .int .i32 ch] #[.int .i64 at_, .int .i64 ch] N M s t := by
 have hrl : s.row.length ≤ 4294967290 := Nat.le_trans h.rowLen hM
 have htl : t.row.length ≤ 4294967290 := by rw [h.row]; exact hrl
 have hlv : (liveIdx t.row 0).length = (live s.row).length := by rw [h.row, liveIdx_live]
 have htm : t.me < t.ops.length := by rw [h.me, h.opsN]; exact h.fit.me
 have ht8 : t.ops.length ≤ 8 := by rw [h.opsN]; exact h.fit.n8
 have hhl : t.held.length ≤ 16 := by rw [h.heldLen]; exact h.fit.most
 have hlen : ∀ l ∈ t.ops, l.length + t.held.length ≤ 4294967294 := fun l hl => by have := h.opsLen2 l hl; omega
 have hrl2 : t.row.length + t.held.length ≤ 4294967294 := by rw [h.row, h.heldLen]; have := h.len; unfold psize at this; omega
 have hRt : ∀ o ∈ t.held, RightOp t.ops.length o.1 := by rw [h.opsN]; exact h.heldR
 by_cases c1 : at_ < 0 ∨ ((live s.row).length : Int) < at_
 ·have hb : behindOf s.row at_ = none := by
   unfold behindOf
   have hl0 : (0 : Int) ≤ ((live s.row).length : Int) := by omega
   rw [if_neg (by omega)]
   by_cases h1 : at_ < 0
   ·rw [if_pos h1]
   ·rw [if_neg h1, liveAt_ge s.row (at_ - 1) (by omega)]; rfl
  refine both_refuse h 2 (by decide) (fun w bx F hP => insert_place s bx F w hP (by omega) at_ ch ha2 hb) (fun w by_ G hR => ?_)
  obtain ⟨⟨rv, bo, vs, hv, hR⟩, hG⟩ := hR
  exact rinsert_place hR (by omega) at_ ch (by rw [hlv]; exact c1)
 ·have c2 : 0 ≤ at_ ∧ at_ ≤ ((live s.row).length : Int) := by omega
  clear c1
  obtain ⟨tc, tp, hb, hin⟩ : ∃ tc tp, behindOf s.row at_ = some (tc, tp) ∧ ((at_ = 0 ∧ tc = 0 ∧ tp = 0) ∨ (0 < at_ ∧ ∃ e, liveAt s.row (at_ - 1) = some e ∧ e.clock = tc ∧ e.peer = tp)) := by
   unfold behindOf
   by_cases h1 : at_ = 0
   ·exact ⟨0, 0, by rw [if_pos h1], Or.inl ⟨h1, rfl, rfl⟩⟩
   ·obtain ⟨e, he⟩ := liveAt_lt s.row (at_ - 1) (by omega) (by omega)
    exact ⟨e.clock, e.peer, by rw [if_neg h1, if_neg (by omega), he]; rfl, Or.inr ⟨by omega, e, he, rfl, rfl⟩⟩
  cases hv : Lib.validRune ch with
  | false =>
   refine both_refuse h 3 (by decide) (fun w bx F hP => insert_rune s bx F w hP (by omega) at_ ch ha2 tc tp hb hv) (fun w by_ G hR => ?_)
   obtain ⟨⟨rv, bo, vs, hv2, hR⟩, hG⟩ := hR
   exact rinsert_rune hR (by omega) at_ ch c2.1 (by rw [hlv]; exact c2.2) (by omega) (by omega) hv
  | true =>
   by_cases hr : roomP s = 0
   ·obtain ⟨r, rfl, hr2⟩ := valid_nat hv
    have hnm : (true = true ∧ tc = 0 ∧ tp = 0) ∨ ∃ e ∈ s.row, e.clock = tc ∧ e.peer = tp := by
     rcases hin with ⟨_, h1, h2⟩ | ⟨_, e, he, h1, h2⟩
     ·exact Or.inl ⟨rfl, h1, h2⟩
     ·exact Or.inr ⟨e, liveAt_mem he, h1, h2⟩
    obtain ⟨hRO, hk, hcl⟩ := h.right true tc tp r hr hnm (by simpa using hr2)
    have hps : psize s < 4294967295 := by have := h.len; omega
    have hap := fun sv => (h.deliver hRO (show (s.makes true (tc, tp) r).num = s.k (s.makes true (tc, tp) r).peer + 1 from rfl) sv).1
    refine ⟨(s.makes true (tc, tp) r).packet, 0, (s.deliverF (s.makes true (tc, tp) r)).1, fun _ => hRO.right, fun w bx F hP => (insert_ok s N bx F w hP h.fit hps at_ r ha2 tc tp hb hv hk hcl hRO).mono ?_, fun w by_ G hR => ?_⟩
    ·rintro e' w' ⟨h1, h2⟩
     exact ⟨h1, h2⟩
    ·obtain ⟨⟨rv, bo, vs, hv2, hR⟩, hG⟩ := hR
     rcases hin with ⟨rfl, rfl, rfl⟩ | ⟨hpos, e, he, rfl, rfl⟩
     ·refine (rinsert_front_any hR hG hrl2 htm ht8 hlen (by rw [h.clock]; exact hcl) hRt (by omega) r (by omega) hv (by rw [h.room]; exact hr)).mono ?_
      rintro e' w' ⟨h1, sv, h2⟩
      rw [h.makes] at h1 h2
      exact ⟨h1, _, hap sv, h2⟩
     ·obtain ⟨k, hk2⟩ : ∃ k : Nat, at_ = (k : Int) + 1 := ⟨(at_ - 1).toNat, by omega⟩
      subst hk2
      have hk1 : (k : Int) + 1 - 1 = (k : Int) := by omega
      have he2 : liveAt t.row (k : Int) = some e := by rw [h.row]; rw [hk1] at he; exact he
      obtain ⟨i, hi1, hi2⟩ := liveAt_idx t.row 0 k e he2
      rw [Nat.zero_add] at hi1
      have hel := h.els e (liveAt_mem he)
      have hfe := h.fit.row e (liveAt_mem he)
      refine (rinsert_behind_any hR hG hrl2 htm ht8 hlen (by rw [h.clock]; exact hcl) hRt (by omega) r (by omega) hv (by rw [h.room]; exact hr) k i hi1 e hi2 hfe.1 hfe.2.1 (fun h0 => by omega)).mono ?_
      rintro e' w' ⟨h1, sv, h2⟩
      rw [h.makes] at h1 h2
      exact ⟨h1, _, hap sv, h2⟩
   ·refine both_refuse h (roomP s) hr (fun w bx F hP => insert_room s N bx F w hP h.fit (by omega) at_ ch ha2 tc tp hb hv hr) (fun w by_ G hR => ?_)
    obtain ⟨⟨rv, bo, vs, hv2, hR⟩, hG⟩ := hR
    rw [← h.room]
    exact rinsert_room hR (by omega) htm ht8 at_ ch c2.1 (by rw [hlv]; exact c2.2) (by omega) (by omega) hv (by rw [h.room]; exact hr)
theorem both_delete {N M : Nat} {s : Pr} {t : RSt} (h : Two N M s t) (hM : M ≤ 4294967290) (at_ : Int) (ha1 : -9223372036854775808 ≤ at_) (ha2 : at_ ≤ 9223372036854775807) :
  Both 32 33 #[.int .i64 at_] #[.int .i64 at_] N M s t := by
 have hrl : s.row.length ≤ 4294967290 := Nat.le_trans h.rowLen hM
 have htl : t.row.length ≤ 4294967290 := by rw [h.row]; exact hrl
 have hlv : (liveIdx t.row 0).length = (live s.row).length := by rw [h.row, liveIdx_live]
 have htm : t.me < t.ops.length := by rw [h.me, h.opsN]; exact h.fit.me
 have ht8 : t.ops.length ≤ 8 := by rw [h.opsN]; exact h.fit.n8
 have hhl : t.held.length ≤ 16 := by rw [h.heldLen]; exact h.fit.most
 have hlen : ∀ l ∈ t.ops, l.length + t.held.length ≤ 4294967294 := fun l hl => by have := h.opsLen2 l hl; omega
 have hrl2 : t.row.length + t.held.length ≤ 4294967294 := by rw [h.row, h.heldLen]; have := h.len; unfold psize at this; omega
 have hRt : ∀ o ∈ t.held, RightOp t.ops.length o.1 := by rw [h.opsN]; exact h.heldR
 by_cases c1 : at_ < 0 ∨ ((live s.row).length : Int) ≤ at_
 ·have hb : liveAt s.row at_ = none := by
   rcases c1 with c1 | c1
   ·exact liveAt_neg _ _ c1
   ·exact liveAt_ge _ _ c1
  refine both_refuse h 2 (by decide) (fun w bx F hP => delete_place s bx F w hP (by omega) at_ hb) (fun w by_ G hR => ?_)
  obtain ⟨⟨rv, bo, vs, hv, hR⟩, hG⟩ := hR
  exact rdelete_place hR (by omega) at_ (by rw [hlv]; exact c1)
 ·have c2 : 0 ≤ at_ ∧ at_ < ((live s.row).length : Int) := by omega
  clear c1
  obtain ⟨e, he⟩ := liveAt_lt s.row at_ c2.1 c2.2
  by_cases hr : roomP s = 0
  ·obtain ⟨hRO, hk, hcl⟩ := h.right false e.clock e.peer 0 hr (Or.inr ⟨e, liveAt_mem he, rfl, rfl⟩) rfl
   have hps : psize s < 4294967295 := by have := h.len; omega
   have hap := fun sv => (h.deliver hRO (show (s.makes false (e.clock, e.peer) 0).num = s.k (s.makes false (e.clock, e.peer) 0).peer + 1 from rfl) sv).1
   refine ⟨(s.makes false (e.clock, e.peer) 0).packet, 0, (s.deliverF (s.makes false (e.clock, e.peer) 0)).1, fun _ => hRO.right, fun w bx F hP => (delete_ok s N bx F w hP h.fit hps at_ e he hk hcl hRO).mono ?_, fun w by_ G hR => ?_⟩
   ·rintro e' w' ⟨h1, h2⟩
    exact ⟨h1, h2⟩
   ·obtain ⟨⟨rv, bo, vs, hv2, hR⟩, hG⟩ := hR
    obtain ⟨k, hk2⟩ : ∃ k : Nat, at_ = (k : Int) := ⟨at_.toNat, by omega⟩
    subst hk2
    have he2 : liveAt t.row (k : Int) = some e := by rw [h.row, ← he]
    obtain ⟨i, hi1, hi2⟩ := liveAt_idx t.row 0 k e he2
    rw [Nat.zero_add] at hi1
    have hel := h.els e (liveAt_mem he)
    have hfe := h.fit.row e (liveAt_mem he)
    refine (rdelete_ok_any hR hG hrl2 htm ht8 hlen (by rw [h.clock]; exact hcl) hRt (by omega) (by rw [h.room]; exact hr) k i hi1 e hi2 hfe.1 hfe.2.1 (fun h0 => by omega)).mono ?_
    rintro e' w' ⟨h1, sv, h2⟩
    rw [h.makes] at h1 h2
    exact ⟨h1, _, hap sv, h2⟩
  ·refine both_refuse h (roomP s) hr (fun w bx F hP => delete_room s N bx F w hP h.fit (by omega) at_ e he hr) (fun w by_ G hR => ?_)
   obtain ⟨⟨rv, bo, vs, hv2, hR⟩, hG⟩ := hR
   rw [← h.room]
   exact rdelete_room hR (by omega) htm ht8 at_ c2.1 (by rw [hlv]; exact c2.2) (by rw [h.room]; exact hr)
def updF {α : Type} (f : Nat → α) (k : Nat) (x : α) : Nat → α := fun j => if j = k then x else f j
theorem updF_same {α : Type} (f : Nat → α) (k : Nat) (x : α) : updF f k x k = x := if_pos rfl
theorem updF_other {α : Type} (f : Nat → α) (k j : Nat) (x : α) (h : j ≠ k) : updF f k x j = f j := if_neg h
def wT : Nat → TypeId
 | 0 => 47
 | 1 => 9
 | 2 => 30
 | 3 => 27
 | _ => 3
def wZ : Nat → Nat
 | 0 => 2
 | _ => 1
theorem wT_ne (j : Nat) : 33 ≠ wT j := by
 rcases j with _ | _ | _ | _ | j
 ·decide
 ·decide
 ·decide
 ·decide
 ·show 33 ≠ 3
  decide
structure WCore (w : World) (bw : Nat) (vs : Nat → Value) (len : Nat → Nat) (xs : Nat → List Value) : Prop where
 block : w.heap[bw]? = some (.cells #[vs 0, vs 1, vs 2, vs 3, vs 4, vs 5] 33 (0, 0))
 rows : ∀ j, j < 6 → w.ownsRow 0 (wT j) (wZ j) (vs j) (len j) (xs j)
 apart : ∀ i j, i < 6 → j < 6 → i ≠ j → ∀ b, (vs i).ownBlock = some b → (vs j).ownBlock ≠ some b
def WOwn (bw : Nat) (vs : Nat → Value) (b : Nat) : Prop := b = bw ∨ ∃ j, j < 6 ∧ (vs j).ownBlock = some b
theorem WCore.keep {S : Nat → Prop} {w w' : World} {bw : Nat} {vs : Nat → Value} {len : Nat → Nat} {xs : Nat → List Value} (h : WCore w bw vs len xs) (k : Kept S w w') (hS : ∀ b, WOwn bw vs b → ¬ S b) : WCore w' bw vs len xs :=
 ⟨k.heap h.block (hS _ (Or.inl rfl)), fun j hj => ownsRow_kept (h.rows j hj) k (fun b hb => hS b (Or.inr ⟨j, hj, hb⟩)), h.apart⟩
theorem WCore.lt {w : World} {bw : Nat} {vs : Nat → Value} {len : Nat → Nat} {xs : Nat → List Value} (h : WCore w bw vs len xs) : ∀ b, WOwn bw vs b → b < w.heap.size := by
 rintro b (rfl | ⟨j, hj, hb⟩)
 ·exact lt_of_heap h.block
 ·exact ((h.rows j hj).lt b hb).2
theorem WCore.cells {w : World} {bw : Nat} {vs : Nat → Value} {len : Nat → Nat} {xs : Nat → List Value} (h : WCore w bw vs len xs) :
  w.cell? ⟨bw, 0, none⟩ = some (vs 0) ∧ w.cell? ⟨bw, 1, none⟩ = some (vs 1) ∧ w.cell? ⟨bw, 2, none⟩ = some (vs 2) ∧ w.cell? ⟨bw, 3, none⟩ = some (vs 3) ∧ w.cell? ⟨bw, 4, none⟩ = some (vs 4) ∧ w.cell? ⟨bw, 5, none⟩ = some (vs 5) := by
 refine ⟨?_, ?_, ?_, ?_, ?_, ?_⟩ <;> (rw [Lib.cell_of_heap h.block]; rfl)
theorem six_set (vs : Nat → Value) (j : Nat) (hj : j < 6) (v : Value) : (#[vs 0, vs 1, vs 2, vs 3, vs 4, vs 5] : Array Value).setIfInBounds j v = #[updF vs j v 0, updF vs j v 1, updF vs j v 2, updF vs j v 3, updF vs j v 4, updF vs j v 5] := by
 rcases j with _ | _ | _ | _ | _ | _ | j
 ·rfl
 ·rfl
 ·rfl
 ·rfl
 ·rfl
 ·rfl
 ·omega
theorem WCore.store {w w1 : World} {bw : Nat} {vs : Nat → Value} {len : Nat → Nat} {xs : Nat → List Value} (h : WCore w bw vs len xs) (j : Nat) (hj : j < 6) (v' : Value) (n' : Nat) (xs' : List Value) (hk : Kept (fun k => (vs j).ownBlock = some k) w w1) (hown : w1.ownsRow 0 (wT j) (wZ j) v' n' xs') (hN : ∀ k, v'.ownBlock = some k → (vs j).ownBlock = some k ∨ w.heap.size ≤ k) :
  WCore (w1.setCell ⟨bw, j, none⟩ v') bw (updF vs j v') (updF len j n') (updF xs j xs') ∧ Kept (WOwn bw vs) w (w1.setCell ⟨bw, j, none⟩ v') ∧ (∀ b, WOwn bw (updF vs j v') b → WOwn bw vs b ∨ w.heap.size ≤ b) := by
 have hbw : (vs j).ownBlock ≠ some bw := own_ne (h.rows j hj) h.block (wT_ne j)
 have hb1 := hk.heap h.block hbw
 have kS : Kept (fun b => b = bw) w1 (w1.setCell ⟨bw, j, none⟩ v') := Kept.setCell (S := fun b => b = bw) (Kept.refl _ w1) (p := ⟨bw, j, none⟩) (fun _ => rfl) _
 have kA : Kept (fun b => (vs j).ownBlock = some b ∨ b = bw) w (w1.setCell ⟨bw, j, none⟩ v') := (hk.mono (fun _ _ h => Or.inl h)).trans kS (fun _ _ h => Or.inr h)
 have hvb : v'.ownBlock ≠ some bw := own_ne hown hb1 (wT_ne j)
 refine ⟨⟨?_, ?_, ?_⟩, ?_, ?_⟩
 ·rw [heap_set_same hb1, six_set vs j hj]
 ·intro i hi
  by_cases hij : i = j
  ·subst hij
   rw [updF_same, updF_same, updF_same]
   exact ownsRow_kept hown kS (fun b hb e => hvb (by rw [← e]; exact hb))
  ·rw [updF_other _ _ _ _ hij, updF_other _ _ _ _ hij, updF_other _ _ _ _ hij]
   refine ownsRow_kept (h.rows i hi) kA (fun b hb e => ?_)
   rcases e with e | e
   ·exact h.apart i j hi hj hij b hb e
   ·subst e; exact own_ne (h.rows i hi) h.block (wT_ne i) hb
 ·have key : ∀ i, i < 6 → i ≠ j → ∀ b, (vs i).ownBlock = some b → v'.ownBlock ≠ some b := fun i hi hij b hb e => by
   rcases hN b e with h1 | h1
   ·exact h.apart i j hi hj hij b hb h1
   ·have := h.lt b (Or.inr ⟨i, hi, hb⟩); omega
  intro i k hi hk6 hik b hb
  by_cases hij : i = j
  ·subst hij
   rw [updF_same] at hb
   rw [updF_other _ _ _ _ (fun e => hik e.symm)]
   intro e
   exact key k hk6 (fun e => hik e.symm) b e hb
  ·rw [updF_other _ _ _ _ hij] at hb
   by_cases hkj : k = j
   ·subst hkj
    rw [updF_same]
    exact key i hi hij b hb
   ·rw [updF_other _ _ _ _ hkj]
    exact h.apart i k hi hk6 hik b hb
 ·refine kA.mono (fun b _ e => ?_)
  rcases e with e | e
  ·exact Or.inr ⟨j, hj, e⟩
  ·exact Or.inl e
 ·rintro b (rfl | ⟨i, hi, hb⟩)
  ·exact Or.inl (Or.inl rfl)
  ·by_cases hij : i = j
   ·subst hij
    rw [updF_same] at hb
    rcases hN b hb with h1 | h1
    ·exact Or.inl (Or.inr ⟨i, hi, h1⟩)
    ·exact Or.inr h1
   ·rw [updF_other _ _ _ _ hij] at hb
    exact Or.inl (Or.inr ⟨i, hi, hb⟩)
structure PP where
 bx : Nat
 by_ : Nat
 N : Nat
 s : Pr
 t : RSt
 F : Nat → Prop
 G : Nat → Prop
def PP.cells (p : PP) : List Value := [.pointer (some ⟨p.bx, 0, none⟩), .pointer (some ⟨p.by_, 0, none⟩)]
def ppCells : List PP → List Value
 | [] => []
 | p :: r => p.cells ++ ppCells r
theorem ppCells_append (a b : List PP) : ppCells (a ++ b) = ppCells a ++ ppCells b := by
 induction a with
 | nil => rfl
 | cons e r ih => simp [ppCells, ih, List.append_assoc]
theorem ppCells_at (es : List PP) (i : Nat) (e : PP) (h : es[i]? = some e) (j : Nat) (hj : j < 2) : (ppCells es)[i * 2 + j]? = e.cells[j]? := by
 induction es generalizing i with
 | nil => simp at h
 | cons x r ih =>
  cases i with
  | zero =>
   simp at h; subst h
   simp only [ppCells, Nat.zero_mul, Nat.zero_add]
   rw [List.getElem?_append_left (by simp [PP.cells]; omega)]
  | succ i =>
   simp only [ppCells]
   rw [List.getElem?_append_right (by simp [PP.cells]; omega)]
   have : (i + 1) * 2 + j - x.cells.length = i * 2 + j := by simp [PP.cells]; omega
   rw [this]
   exact ih i (by simpa using h)
theorem ppCells_set (es : List PP) (i : Nat) (p q : PP) (h : es[i]? = some p) (h1 : q.bx = p.bx) (h2 : q.by_ = p.by_) : ppCells (es.set i q) = ppCells es := by
 induction es generalizing i with
 | nil => rfl
 | cons x r ih =>
  cases i with
  | zero =>
   simp at h; subst h
   simp [ppCells, PP.cells, h1, h2]
  | succ i =>
   simp only [List.set_cons_succ, ppCells]
   rw [ih i (by simpa using h)]
structure PP.At (M : Nat) (w : World) (p : PP) : Prop where
 x : PM w p.bx p.s p.F
 y : RM w p.by_ p.t p.G
 two : Two p.N M p.s p.t
 off : ∀ b, p.F b → ¬ p.G b
theorem PP.At.keep {S : Nat → Prop} {M : Nat} {w w' : World} {p : PP} (h : p.At M w) (k : Kept S w w') (hS : ∀ b, p.F b ∨ p.G b → ¬ S b) : p.At M w' :=
 ⟨h.x.keep k (fun b hb => hS b (Or.inl hb)), h.y.keep k (fun b hb => hS b (Or.inr hb)), h.two, h.off⟩
theorem PP.At.more {M M' : Nat} {w : World} {p : PP} (h : p.At M w) (hM : M ≤ M') : p.At M' w := ⟨h.x, h.y, h.two.more hM, h.off⟩
def FullAt (w : World) (v u : Value) : Prop := ∃ a n c, v = .slice a n c ∧ n ≤ 4294967296 ∧ (0 < n → ∃ g, a = some ⟨g, 0, none⟩ ∧ ∀ i, i < n → w.cell? ⟨g, i, none⟩ = some u)
theorem FullAt.keep {S : Nat → Prop} {w w' : World} {v u : Value} (h : FullAt w v u) (k : Kept S w w') (hS : ∀ b, v.ownBlock = some b → ¬ S b) : FullAt w' v u := by
 obtain ⟨a, n, c, rfl, hn, h⟩ := h
 refine ⟨a, n, c, rfl, hn, fun h0 => ?_⟩
 obtain ⟨g, rfl, hc⟩ := h h0
 exact ⟨g, rfl, fun i hi => k.cell' (hc i hi) (hS g rfl)⟩
def markB (m : Int) : List UInt8 := [109, 97, 114, 107] ++ four m.toNat
structure WS where
 ps : List PP
 pks : List (List UInt8)
 ns : List Value
 ts : List Value
 ms0 : List Int
 ms1 : List Int
 vs : Nat → Value
def WS.len (S : WS) : Nat → Nat
 | 0 => S.ps.length
 | 1 => S.pks.length
 | 2 => S.ns.length
 | 3 => S.ts.length
 | 4 => S.ms0.length
 | _ => S.ms1.length
def WS.xs (S : WS) : Nat → List Value
 | 0 => ppCells S.ps
 | 1 => S.pks.map fun l => .string ⟨l.toArray⟩
 | 2 => S.ns
 | 3 => S.ts
 | 4 => S.ms0.map fun m => .int .i64 m
 | _ => S.ms1.map fun m => .int .i64 m
def LB (S : WS) (b : Nat) : Prop := ∃ v, (v ∈ S.ns ∨ v ∈ S.ts) ∧ v.ownBlock = some b
structure WSt (M B0 : Nat) (w : World) (bw : Nat) (S : WS) : Prop where
 core : WCore w bw S.vs S.len S.xs
 peers : ∀ p ∈ S.ps, p.At M w
 apart : ∀ (i j : Nat) (p q : PP), S.ps[i]? = some p → S.ps[j]? = some q → i ≠ j → ∀ b, (p.F b ∨ p.G b) → ¬ (q.F b ∨ q.G b)
 nums : ∀ (i : Nat) (v : Value) (m : Int), S.ns[i]? = some v → S.ms0[i]? = some m → FullAt w v (.int .i64 m)
 txts : ∀ (i : Nat) (v : Value) (m : Int), S.ts[i]? = some v → S.ms1[i]? = some m → FullAt w v (.string ⟨(markB m).toArray⟩)
 offO : ∀ p ∈ S.ps, ∀ b, WOwn bw S.vs b → ¬ (p.F b ∨ p.G b)
 offL : ∀ b, LB S b → b < w.heap.size ∧ ¬ WOwn bw S.vs b ∧ ∀ p ∈ S.ps, ¬ (p.F b ∨ p.G b)
 new : ∀ b, (WOwn bw S.vs b ∨ ∃ p ∈ S.ps, p.F b ∨ p.G b) → B0 ≤ b
 packs : ∀ l ∈ S.pks, 4 < l.length ∧ l.length ≤ 65536
 m1pos : ∀ m ∈ S.ms1, 0 ≤ m ∧ m < 4294967296
theorem WSt.more {M M' B0 : Nat} {w : World} {bw : Nat} {S : WS} (h : WSt M B0 w bw S) (hM : M ≤ M') : WSt M' B0 w bw S :=
 ⟨h.core, fun p hp => (h.peers p hp).more hM, h.apart, h.nums, h.txts, h.offO, h.offL, h.new, h.packs, h.m1pos⟩
theorem WSt.quiet {M B0 : Nat} {w w' : World} {bw : Nat} {S : WS} (h : WSt M B0 w bw S) (k : Kept (fun _ => False) w w') : WSt M B0 w' bw S :=
 ⟨h.core.keep k (fun _ _ h => h), fun p hp => (h.peers p hp).keep k (fun _ _ h => h), h.apart, fun i v m h1 h2 => (h.nums i v m h1 h2).keep k (fun _ _ h => h), fun i v m h1 h2 => (h.txts i v m h1 h2).keep k (fun _ _ h => h), h.offO, fun b hb => ⟨Nat.lt_of_lt_of_le (h.offL b hb).1 k.size, (h.offL b hb).2⟩, h.new, h.packs, h.m1pos⟩
theorem WSt.own {M B0 : Nat} {w w' : World} {bw : Nat} {S : WS} (h : WSt M B0 w bw S) (hB : B0 ≤ w.heap.size) (vs' : Nat → Value) (len' : Nat → Nat) (xs' : Nat → List Value) (hc : WCore w' bw vs' len' xs') (k : Kept (WOwn bw S.vs) w w') (hN : ∀ b, WOwn bw vs' b → WOwn bw S.vs b ∨ w.heap.size ≤ b)
  (S' : WS) (h1 : S'.vs = vs') (h2 : S'.len = len') (h3 : S'.xs = xs') (h4 : S'.ps = S.ps) (hnums : ∀ (i : Nat) (v : Value) (m : Int), S'.ns[i]? = some v → S'.ms0[i]? = some m → FullAt w' v (.int .i64 m)) (htxts : ∀ (i : Nat) (v : Value) (m : Int), S'.ts[i]? = some v → S'.ms1[i]? = some m → FullAt w' v (.string ⟨(markB m).toArray⟩))
  (hlb : ∀ b, LB S' b → b < w'.heap.size ∧ ¬ WOwn bw vs' b ∧ ∀ p ∈ S.ps, ¬ (p.F b ∨ p.G b)) (hpk : ∀ l ∈ S'.pks, 4 < l.length ∧ l.length ≤ 65536) (hm1 : ∀ m ∈ S'.ms1, 0 ≤ m ∧ m < 4294967296) : WSt M B0 w' bw S' := by
 have hoff : ∀ p ∈ S.ps, ∀ b, p.F b ∨ p.G b → b < w.heap.size := fun p hp b hb => by
  rcases hb with hb | hb
  ·exact (h.peers p hp).x.lt b hb
  ·exact (h.peers p hp).y.2 b hb
 refine ⟨by rw [h1, h2, h3]; exact hc, ?_, by rw [h4]; exact h.apart, hnums, htxts, ?_, ?_, ?_, hpk, hm1⟩
 ·rw [h4]
  intro p hp
  exact (h.peers p hp).keep k (fun b hb ho => h.offO p hp b ho hb)
 ·rw [h4, h1]
  intro p hp b hb hpb
  rcases hN b hb with h5 | h5
  ·exact h.offO p hp b h5 hpb
  ·have := hoff p hp b hpb; omega
 ·rw [h4, h1]; exact hlb
 ·rw [h4, h1]
  rintro b (hb | hb)
  ·rcases hN b hb with h5 | h5
   ·exact h.new b (Or.inl h5)
   ·omega
  ·exact h.new b (Or.inr hb)
theorem WSt.turn {M M' B0 : Nat} {w w1 w2 : World} {bw : Nat} {S : WS} (h : WSt M B0 w bw S) (hB : B0 ≤ w.heap.size) (hM : M ≤ M') {i : Nat} {p : PP} (hi : S.ps[i]? = some p) {s' : Pr} {t' : RSt} (T : Turn p.bx p.F w w1 s') (R : RTurn p.by_ p.G w1 w2 t') (two : Two p.N M' s' t') :
  ∃ F' G', WSt M' B0 w2 bw { S with ps := S.ps.set i ⟨p.bx, p.by_, p.N, s', t', F', G'⟩ } ∧ Kept (fun b => B0 ≤ b) w w2 ∧ Kept (fun b => p.F b ∨ p.G b) w w2 := by
 obtain ⟨F', X, K1, N1⟩ := T
 obtain ⟨G', Y, K2, N2⟩ := R
 have hpm := List.mem_of_getElem? hi
 have hA := h.peers p hpm
 have K : Kept (fun b => p.F b ∨ p.G b) w w2 := (K1.mono (fun _ _ h => Or.inl h)).trans K2 (fun _ _ h => Or.inr h)
 have hlt : ∀ q ∈ S.ps, ∀ b, q.F b ∨ q.G b → b < w.heap.size := fun q hq b hb => by
  rcases hb with hb | hb
  ·exact (h.peers q hq).x.lt b hb
  ·exact (h.peers q hq).y.2 b hb
 have hF'lt := X.lt
 have hnew : ∀ b, F' b ∨ G' b → (p.F b ∨ p.G b) ∨ w.heap.size ≤ b := fun b hb => by
  rcases hb with hb | hb
  ·rcases N1 b hb with h1 | h1
   ·exact Or.inl (Or.inl h1)
   ·exact Or.inr h1
  ·rcases N2 b hb with h1 | h1
   ·exact Or.inl (Or.inr h1)
   ·exact Or.inr (Nat.le_trans K1.size h1)
 have hofF : ∀ b, F' b → ¬ p.G b := fun b hb hg => by
  rcases N1 b hb with h1 | h1
  ·exact hA.off b h1 hg
  ·have := hA.y.2 b hg; omega
 have hoff : ∀ b, F' b → ¬ G' b := fun b hb hg => by
  rcases N2 b hg with h1 | h1
  ·exact hofF b hb h1
  ·have := hF'lt b hb; omega
 have hil := (List.getElem?_eq_some_iff.1 hi).1
 have hother : ∀ (j : Nat) (q : PP), S.ps[j]? = some q → j ≠ i → ∀ b, q.F b ∨ q.G b → ¬ (F' b ∨ G' b) := fun j q hj hji b hb hf => by
  rcases hnew b hf with h1 | h1
  ·exact h.apart j i q p hj hi hji b hb h1
  ·have := hlt q (List.mem_of_getElem? hj) b hb; omega
 refine ⟨F', G', ⟨?_, ?_, ?_, ?_, ?_, ?_, ?_, ?_, h.packs, h.m1pos⟩, K.mono (fun b _ hb => h.new b (Or.inr ⟨p, hpm, hb⟩)), K⟩
 ·have hc := h.core.keep K (fun b hb hpb => h.offO p hpm b hb hpb)
  refine ⟨hc.block, fun j hj => ?_, hc.apart⟩
  have := hc.rows j hj
  rcases j with _ | _ | _ | _ | _ | j
  ·show w2.ownsRow 0 _ _ _ (S.ps.set i _).length (ppCells (S.ps.set i _))
   rw [List.length_set, ppCells_set S.ps i p ⟨p.bx, p.by_, p.N, s', t', F', G'⟩ hi rfl rfl]
   exact this
  ·exact this
  ·exact this
  ·exact this
  ·exact this
  ·exact this
 ·intro q hq
  obtain ⟨j, hj⟩ := List.getElem?_of_mem hq
  have hj : (S.ps.set i ⟨p.bx, p.by_, p.N, s', t', F', G'⟩)[j]? = some q := hj
  rw [List.getElem?_set] at hj
  by_cases hij : i = j
  ·rw [if_pos hij, if_pos hil] at hj
   cases hj
   exact ⟨X.keep K2 (fun b hb hg => hofF b hb hg), Y, two, hoff⟩
  ·rw [if_neg hij] at hj
   exact ((h.peers q (List.mem_of_getElem? hj)).keep K (fun b hb hpb => h.apart j i q p hj hi (fun e => hij e.symm) b hb hpb)).more hM
 ·intro j k q r hj hk hjk b hb
  have hj : (S.ps.set i ⟨p.bx, p.by_, p.N, s', t', F', G'⟩)[j]? = some q := hj
  have hk : (S.ps.set i ⟨p.bx, p.by_, p.N, s', t', F', G'⟩)[k]? = some r := hk
  rw [List.getElem?_set] at hj hk
  by_cases hij : i = j
  ·rw [if_pos hij, if_pos hil] at hj
   cases hj
   rw [if_neg (fun e => hjk (hij.symm.trans e))] at hk
   exact fun hr => hother k r hk (fun e => hjk (hij.symm.trans e.symm)) b hr hb
  ·rw [if_neg hij] at hj
   by_cases hik : i = k
   ·rw [if_pos hik, if_pos hil] at hk
    cases hk
    exact hother j q hj (fun e => hij e.symm) b hb
   ·rw [if_neg hik] at hk
    exact h.apart j k q r hj hk hjk b hb
 ·intro j v m h1 h2
  refine (h.nums j v m h1 h2).keep K (fun b hb hpb => ?_)
  exact (h.offL b ⟨v, Or.inl (List.mem_of_getElem? h1), hb⟩).2.2 p hpm hpb
 ·intro j v m h1 h2
  refine (h.txts j v m h1 h2).keep K (fun b hb hpb => ?_)
  exact (h.offL b ⟨v, Or.inr (List.mem_of_getElem? h1), hb⟩).2.2 p hpm hpb
 ·intro q hq b hb hqb
  rcases List.mem_or_eq_of_mem_set hq with hq | rfl
  ·exact h.offO q hq b hb hqb
  ·rcases hnew b hqb with h1 | h1
   ·exact h.offO p hpm b hb h1
   ·have := h.core.lt b hb; omega
 ·intro b hb
  obtain ⟨h1, h2, h3⟩ := h.offL b hb
  refine ⟨Nat.lt_of_lt_of_le h1 K.size, h2, fun q hq hqb => ?_⟩
  rcases List.mem_or_eq_of_mem_set hq with hq | rfl
  ·exact h3 q hq hqb
  ·rcases hnew b hqb with h4 | h4
   ·exact h3 p hpm h4
   ·omega
 ·rintro b (hb | ⟨q, hq, hqb⟩)
  ·exact h.new b (Or.inl hb)
  ·rcases List.mem_or_eq_of_mem_set hq with hq | rfl
   ·exact h.new b (Or.inr ⟨q, hq, hqb⟩)
   ·rcases hnew b hqb with h4 | h4
    ·exact h.new b (Or.inr ⟨p, hpm, h4⟩)
    ·omega
set_option maxHeartbeats 400000 in
theorem lnum_any (e : Int) (w : World) : Calls Tryz.prog 11 #[.int .i64 e] w fun e' w' => e' = .returned (.int .i64 e) ∧ w' = w := by
 go_enter Tryz.func11, Tryz.ntmps11
 go_wp2
 go_ret
 exact ⟨rfl, rfl⟩
set_option maxHeartbeats 400000 in
theorem lpick_any (c n : Int) (w : World) (hn0 : 0 < n) (hn1 : n ≤ 9223372036854775807) (hc0 : -9223372036854775808 ≤ c) (hc1 : c ≤ 9223372036854775807) :
  Calls Tryz.prog 12 #[.int .i64 c, .int .i64 n] w fun e' w' => e' = .returned (.int .i64 (pickN c n)) ∧ w' = w := by
 by_cases h : c < 0
 ·go_enter Tryz.func12, Tryz.ntmps12
  go_wp2
  go_ret
  exact ⟨ret_int (by unfold pickN; rw [if_pos h, ← Int.neg_tmod, Int.tmod_eq_emod_of_nonneg (by omega)]), rfl⟩
 ·go_enter Tryz.func12, Tryz.ntmps12
  go_wp2
  go_ret
  exact ⟨ret_int (by unfold pickN; rw [if_neg (by omega)]), rfl⟩
set_option maxHeartbeats 1000000 in
theorem ltext_any (n : Nat) (w : World) (hn : n < 4294967296) :
  Calls Tryz.prog 24 #[.int .i64 n] w fun e' w' => e' = .returned (.string ⟨(markB n).toArray⟩) ∧ Kept (fun _ => False) w w' := by
 have hcells : Lib.byteCells (four n) = [.int .u8 ((n : Int) / 16777216), .int .u8 ((n : Int) / 65536 % 256), .int .u8 ((n : Int) / 256 % 256), .int .u8 ((n : Int) % 256)] := by
  rw [four_cells]
  have e1 : ((n / 16777216 % 256 : Nat) : Int) = (n : Int) / 16777216 := by omega
  have e2 : ((n / 65536 % 256 : Nat) : Int) = (n : Int) / 65536 % 256 := by omega
  have e3 : ((n / 256 % 256 : Nat) : Int) = (n : Int) / 256 % 256 := by omega
  have e4 : ((n % 256 : Nat) : Int) = (n : Int) % 256 := by omega
  rw [e1, e2, e3, e4]
 have hcv := conv_new w (four n) #[.int .u8 ((n : Int) / 16777216), .int .u8 ((n : Int) / 65536 % 256), .int .u8 ((n : Int) / 256 % 256), .int .u8 ((n : Int) % 256)] 4 4 rfl (by rw [hcells])
 have hadd := fun w : World => str_add w [109, 97, 114, 107] (four n) ⟨(four n).toArray⟩ rfl (by simp [four])
 have hm : Hid (markB n = [109, 97, 114, 107] ++ four n) := by
  show markB n = _
  unfold markB
  rw [Int.toNat_natCast]
 clear hcells
 go_enter Tryz.func24, Tryz.ntmps24
 go_wp2
 go_ret
 exact ⟨ret_str (by rw [hm.out]; rfl), (Kept.refl _ w).alloc _⟩
def NumsAt (w : World) (v : Value) (l : List Int) : Prop := ∃ a cp, v = .slice a l.length cp ∧ (∀ (i : Nat) (n : Int), l[i]? = some n → ∃ g, a = some ⟨g, 0, none⟩ ∧ w.cell? ⟨g, i, none⟩ = some (.int .i64 n))
set_option maxHeartbeats 1000000 in
set_option maxRecDepth 100000 in
theorem lsame_true (l : List Int) (u v : Value) (w : World) (hu : NumsAt w u l) (hv : NumsAt w v l) (hl : l.length ≤ 4294967296) :
  Calls Tryz.prog 17 #[u, v] w fun e' w' => e' = .returned (.bool true) ∧ Kept (fun _ => False) w w' := by
 obtain ⟨a, cp, rfl, ha⟩ := hu
 obtain ⟨b, cq, rfl, hb⟩ := hv
 go_enter Tryz.func17, Tryz.ntmps17
 go_wp2
 go_loopw [5] (fun i wr => ∃ k : Nat, k ≤ l.length ∧ i = .int .i64 k ∧ Kept (fun _ => False) w wr) (fun i _ => l.length - (intOf i).toNat)
 case atStart => exact ⟨0, Nat.zero_le _, rfl, Kept.refl _ _⟩
 case round =>
  obtain ⟨k, hk, rfl, hkp⟩ := hrel
  by_cases hlt : k < l.length
  ·have hlt2 : (k : Int) < (l.length : Int) := by omega
   obtain ⟨n, hn⟩ : ∃ n, l[k]? = some n := ⟨_, List.getElem?_eq_getElem hlt⟩
   obtain ⟨g, rfl, g0⟩ := ha k n hn
   obtain ⟨g', rfl, g1⟩ := hb k n hn
   replace g0 := hkp.cell' g0 (fun h => h)
   replace g1 := hkp.cell' g1 (fun h => h)
   have z0 : g < wr.heap.size := World.block_lt_of_cell? wr _ g0
   have z1 : g' < wr.heap.size := World.block_lt_of_cell? wr _ g1
   have HK : Hid (Kept (fun _ => False) w wr) := hkp
   clear ha hb hn hkp
   go_wp2
   go_quiet (fail)
   go_wp2
   go_roundw
   case rel => exact ⟨k + 1, by omega, by go_num, HK.out.drewN _⟩
   case measure => simp [intOf]; omega
  ·clear ha hb
   go_wp2
   go_ret
   exact ⟨rfl, hkp⟩
theorem own_cells {w : World} {e : TypeId} {v : Value} {n : Nat} {xs : List Value} (h : w.ownsRow 0 e 1 v n xs) : ∃ a cp, v = .slice a n cp ∧ n ≤ cp ∧ cp ≤ maxLen ∧ (n = 0 ∨ ∃ g, a = some ⟨g, 0, none⟩ ∧ ∀ (i : Nat) (u : Value), xs[i]? = some u → w.cell? ⟨g, i, none⟩ = some u) := by
 rcases h.2 with ⟨rfl, h0⟩ | ⟨g, cap, cur, rfl, _, hg, hnc, hm, _, htk⟩
 ·exact ⟨none, 0, by rw [h0], by omega, by unfold maxLen; omega, Or.inl h0⟩
 ·refine ⟨_, cap, rfl, hnc, hm, Or.inr ⟨g, rfl, fun i u hu => ?_⟩⟩
  have hl := h.1
  have hil : i < xs.length := (List.getElem?_eq_some_iff.1 hu).1
  rw [Lib.cell_of_heap hg, ← Array.getElem?_toList, ← hu, ← htk, List.getElem?_take, if_pos (by omega)]
set_option maxHeartbeats 2000000 in
set_option maxRecDepth 100000 in
theorem looks_any {M B0 : Nat} {w : World} {bw : Nat} {S : WS} (h : WSt M B0 w bw S) (h1 : S.ns.length = S.ms0.length) (h2 : S.ts.length = S.ms1.length) (hn : S.ns.length ≤ 4294967296) (ht : S.ts.length ≤ 4294967296) :
  Calls Tryz.prog 8 #[.pointer (some ⟨bw, 0, none⟩)] w fun e' w' => e' = .returned (.bool true) ∧ Kept (fun _ => False) w w' := by
 obtain ⟨c0, c1, c2, c3, c4, c5⟩ := h.core.cells
 obtain ⟨a2, p2, e2, _, _, f2⟩ := own_cells (h.core.rows 2 (by decide))
 obtain ⟨a3, p3, e3, _, _, f3⟩ := own_cells (h.core.rows 3 (by decide))
 obtain ⟨a4, p4, e4, _, _, f4⟩ := own_cells (h.core.rows 4 (by decide))
 obtain ⟨a5, p5, e5, _, _, f5⟩ := own_cells (h.core.rows 5 (by decide))
 have e2 : S.vs 2 = .slice a2 S.ns.length p2 := e2
 have e3 : S.vs 3 = .slice a3 S.ts.length p3 := e3
 have e4 : S.vs 4 = .slice a4 S.ms0.length p4 := e4
 have e5 : S.vs 5 = .slice a5 S.ms1.length p5 := e5
 rw [e2] at c2
 rw [e3] at c3
 rw [e4] at c4
 rw [e5] at c5
 have F2 : S.ns.length = 0 ∨ ∃ g, a2 = some ⟨g, 0, none⟩ ∧ ∀ (i : Nat) (u : Value), S.ns[i]? = some u → w.cell? ⟨g, i, none⟩ = some u := f2
 have F3 : S.ts.length = 0 ∨ ∃ g, a3 = some ⟨g, 0, none⟩ ∧ ∀ (i : Nat) (u : Value), S.ts[i]? = some u → w.cell? ⟨g, i, none⟩ = some u := f3
 have F4 : S.ms0.length = 0 ∨ ∃ g, a4 = some ⟨g, 0, none⟩ ∧ ∀ (i : Nat) (u : Value), (S.ms0.map fun m => Value.int .i64 m)[i]? = some u → w.cell? ⟨g, i, none⟩ = some u := f4
 have F5 : S.ms1.length = 0 ∨ ∃ g, a5 = some ⟨g, 0, none⟩ ∧ ∀ (i : Nat) (u : Value), (S.ms1.map fun m => Value.int .i64 m)[i]? = some u → w.cell? ⟨g, i, none⟩ = some u := f5
 have HN : Hid (∀ (i : Nat) (v : Value) (m : Int), S.ns[i]? = some v → S.ms0[i]? = some m → FullAt w v (.int .i64 m)) := h.nums
 have HT : Hid (∀ (i : Nat) (v : Value) (m : Int), S.ts[i]? = some v → S.ms1[i]? = some m → FullAt w v (.string ⟨(markB m).toArray⟩)) := h.txts
 have HM : Hid (∀ m ∈ S.ms1, 0 ≤ m ∧ m < 4294967296) := h.m1pos
 have H1 : Hid (S.ns.length = S.ms0.length) := h1
 have H2 : Hid (S.ts.length = S.ms1.length) := h2
 clear e2 e3 e4 e5 f2 f3 f4 f5 h c0 c1 h1 h2
 go_enter Tryz.func8, Tryz.ntmps8
 go_wp2
 go_loopw [3] (fun i wr => ∃ k : Nat, k ≤ S.ns.length ∧ i = .int .i64 k ∧ Kept (fun _ => False) w wr) (fun i _ => S.ns.length - (intOf i).toNat)
 case atStart => exact ⟨0, Nat.zero_le _, rfl, Kept.refl _ _⟩
 case round =>
  obtain ⟨k, hk, rfl, hkp⟩ := hrel
  have d2 := hkp.cell' c2 (fun h => h)
  have d4 := hkp.cell' c4 (fun h => h)
  have z2 : bw < wr.heap.size := World.block_lt_of_cell? wr _ d2
  by_cases hlt : k < S.ns.length
  ·have hlt2 : (k : Int) < (S.ns.length : Int) := by omega
   have hlt3 : k < S.ms0.length := by rw [← H1.out]; exact hlt
   have hlt4 : (k : Int) < (S.ms0.length : Int) := by omega
   obtain ⟨v, hv⟩ : ∃ v, S.ns[k]? = some v := ⟨_, List.getElem?_eq_getElem hlt⟩
   obtain ⟨m, hm⟩ : ∃ m, S.ms0[k]? = some m := ⟨_, List.getElem?_eq_getElem hlt3⟩
   obtain ⟨a, n, c, rfl, hn2, hfull⟩ := HN.out k v m hv hm
   obtain ⟨g2, rfl, G2⟩ := F2.resolve_left (by omega)
   obtain ⟨g4, rfl, G4⟩ := F4.resolve_left (by omega)
   have x2 := hkp.cell' (G2 k _ hv) (fun h => h)
   have x4 := hkp.cell' (G4 k (.int .i64 m) (by rw [List.getElem?_map, hm]; rfl)) (fun h => h)
   have y2 : g2 < wr.heap.size := World.block_lt_of_cell? wr _ x2
   have y4 : g4 < wr.heap.size := World.block_lt_of_cell? wr _ x4
   have HK : Hid (Kept (fun _ => False) w wr) := hkp
   clear F2 F3 F4 F5 G2 G4 hv hm hkp c2 c3 c4 c5
   obtain ⟨wo, hwo⟩ : ∃ wo : World, wo = wr := ⟨_, rfl⟩
   subst hwo
   go_wp2
   go_loopw [4] (fun i wi => ∃ j : Nat, j ≤ n ∧ i = .int .i64 j ∧ Kept (fun _ => False) wo wi) (fun i _ => n - (intOf i).toNat)
   case atStart => exact ⟨0, Nat.zero_le _, rfl, Kept.refl _ _⟩
   case round =>
    obtain ⟨j, hj, rfl, hkj⟩ := hrel
    replace d2 := hkj.cell' d2 (fun h => h)
    replace d4 := hkj.cell' d4 (fun h => h)
    replace x2 := hkj.cell' x2 (fun h => h)
    replace x4 := hkj.cell' x4 (fun h => h)
    have z2 : bw < wr.heap.size := World.block_lt_of_cell? wr _ d2
    have y2 : g2 < wr.heap.size := World.block_lt_of_cell? wr _ x2
    have y4 : g4 < wr.heap.size := World.block_lt_of_cell? wr _ x4
    by_cases hjn : j < n
    ·have hjn2 : (j : Int) < (n : Int) := by omega
     obtain ⟨g, rfl, hg⟩ := hfull (by omega)
     have x := hkj.cell' (HK.out.cell' (hg j hjn) (fun h => h)) (fun h => h)
     have y : g < wr.heap.size := World.block_lt_of_cell? wr _ x
     have HKJ : Hid (Kept (fun _ => False) wo wr) := hkj
     clear hfull hg hkj
     go_wp2
     go_quiet (fail)
     go_wp2
     go_roundw
     case rel => exact ⟨j + 1, by omega, by go_num, HKJ.out.drewN _⟩
     case measure => simp [intOf]; omega
    ·have hjn2 : ¬ (j : Int) < (n : Int) := by omega
     have HKJ : Hid (Kept (fun _ => False) w wr) := HK.out.trans' hkj
     clear hfull hkj
     go_wp2
     go_roundw
     case rel => exact ⟨k + 1, by omega, by go_num, HKJ.out⟩
     case measure => simp [intOf]; omega
  ·have hlt2 : ¬ (k : Int) < (S.ns.length : Int) := by omega
   have HK : Hid (Kept (fun _ => False) w wr) := hkp
   obtain ⟨wo, hwo⟩ : ∃ wo : World, wo = wr := ⟨_, rfl⟩
   subst hwo
   clear F2 F4 HN c2 c4 d4
   replace c3 := hkp.cell' c3 (fun h => h)
   replace c5 := hkp.cell' c5 (fun h => h)
   go_wp2
   go_loopw [5] (fun i wr => ∃ k : Nat, k ≤ S.ts.length ∧ i = .int .i64 k ∧ Kept (fun _ => False) wo wr) (fun i _ => S.ts.length - (intOf i).toNat)
   case atStart => exact ⟨0, Nat.zero_le _, rfl, Kept.refl _ _⟩
   case round =>
    clear d2 z2
    obtain ⟨q, hq, rfl, hkq⟩ := hrel
    have d3 := hkq.cell' c3 (fun h => h)
    have d5 := hkq.cell' c5 (fun h => h)
    have z3 : bw < wr.heap.size := World.block_lt_of_cell? wr _ d3
    by_cases hqt : q < S.ts.length
    ·have hlt2 : (q : Int) < (S.ts.length : Int) := by omega
     have hlt3 : q < S.ms1.length := by rw [← H2.out]; exact hqt
     have hlt4 : (q : Int) < (S.ms1.length : Int) := by omega
     obtain ⟨v, hv⟩ : ∃ v, S.ts[q]? = some v := ⟨_, List.getElem?_eq_getElem hqt⟩
     obtain ⟨m, hm⟩ : ∃ m, S.ms1[q]? = some m := ⟨_, List.getElem?_eq_getElem hlt3⟩
     obtain ⟨m', hm'⟩ : ∃ m' : Nat, m = m' := ⟨m.toNat, by have := HM.out m (List.mem_of_getElem? hm); omega⟩
     have hmb : m' < 4294967296 := by have := HM.out m (List.mem_of_getElem? hm); omega
     subst hm'
     obtain ⟨a, n, c, rfl, hn2, hfull⟩ := HT.out q v m' hv hm
     obtain ⟨g3, rfl, G3⟩ := F3.resolve_left (by omega)
     obtain ⟨g5, rfl, G5⟩ := F5.resolve_left (by omega)
     have x3 := hkq.cell' (HK.out.cell' (G3 q _ hv) (fun h => h)) (fun h => h)
     have x5 := hkq.cell' (HK.out.cell' (G5 q (.int .i64 m') (by rw [List.getElem?_map, hm]; rfl)) (fun h => h)) (fun h => h)
     have y3 : g3 < wr.heap.size := World.block_lt_of_cell? wr _ x3
     have y5 : g5 < wr.heap.size := World.block_lt_of_cell? wr _ x5
     have HKQ : Hid (Kept (fun _ => False) wo wr) := hkq
     have htx := ltext_any m' wr hmb
     obtain ⟨TX, hTX⟩ : ∃ TX : ByteArray, (⟨(markB m').toArray⟩ : ByteArray) = TX := ⟨_, rfl⟩
     rw [hTX] at htx hfull
     clear F3 F5 G3 G5 hv hm hkq c3 c5 hTX hkp
     obtain ⟨wp, hwp⟩ : ∃ wp : World, wp = wr := ⟨_, rfl⟩
     subst hwp
     go_wp2_with fail
     refine htx.mono ?_
     rintro e1 w1 ⟨rfl, k1⟩
     clear htx
     replace d3 := k1.cell' d3 (fun h => h)
     replace x3 := k1.cell' x3 (fun h => h)
     have HK1 : Hid (Kept (fun _ => False) wo w1) := HKQ.out.trans' k1
     clear HKQ k1 d5 x5 y3 y5 z3
     go_wp2
     go_loopw [7] (fun i wi => ∃ j : Nat, j ≤ n ∧ i = .int .i64 j ∧ Kept (fun _ => False) w1 wi) (fun i _ => n - (intOf i).toNat)
     case atStart => exact ⟨0, Nat.zero_le _, rfl, Kept.refl _ _⟩
     case round =>
      obtain ⟨j, hj, rfl, hkj⟩ := hrel
      replace d3 := hkj.cell' d3 (fun h => h)
      replace x3 := hkj.cell' x3 (fun h => h)
      have z3 : bw < wr.heap.size := World.block_lt_of_cell? wr _ d3
      have y3 : g3 < wr.heap.size := World.block_lt_of_cell? wr _ x3
      by_cases hjn : j < n
      ·have hjn2 : (j : Int) < (n : Int) := by omega
       obtain ⟨g, rfl, hg⟩ := hfull (by omega)
       have x := hkj.cell' (HK1.out.cell' (HK.out.cell' (hg j hjn) (fun h => h)) (fun h => h)) (fun h => h)
       have y : g < wr.heap.size := World.block_lt_of_cell? wr _ x
       have HKJ : Hid (Kept (fun _ => False) w1 wr) := hkj
       clear hfull hg hkj
       go_wp2
       go_roundw
       case rel => exact ⟨j + 1, by omega, by go_num, HKJ.out⟩
       case measure => simp [intOf]; omega
      ·have hjn2 : ¬ (j : Int) < (n : Int) := by omega
       have HKJ : Hid (Kept (fun _ => False) wo wr) := HK1.out.trans' hkj
       clear hfull hkj
       go_wp2
       go_roundw
       case rel => exact ⟨q + 1, by omega, by go_num, HKJ.out⟩
       case measure => simp [intOf]; omega
    ·have hlt2 : ¬ (q : Int) < (S.ts.length : Int) := by omega
     have HKQ : Hid (Kept (fun _ => False) w wr) := HK.out.trans' hkq
     clear F3 F5 hkq c3 c5 hkp
     go_wp2
     go_ret
     exact ⟨rfl, HKQ.out⟩
theorem WSt.keep {T : Nat → Prop} {M B0 : Nat} {w w' : World} {bw : Nat} {S : WS} (h : WSt M B0 w bw S) (k : Kept T w w') (hT : ∀ b, T b → ¬ WOwn bw S.vs b ∧ (∀ p ∈ S.ps, ¬ (p.F b ∨ p.G b)) ∧ ¬ LB S b) : WSt M B0 w' bw S :=
 ⟨h.core.keep k (fun b hb ht => (hT b ht).1 hb), fun p hp => (h.peers p hp).keep k (fun b hb ht => (hT b ht).2.1 p hp hb), h.apart, fun i v m h1 h2 => (h.nums i v m h1 h2).keep k (fun b hb ht => (hT b ht).2.2 ⟨v, Or.inl (List.mem_of_getElem? h1), hb⟩), fun i v m h1 h2 => (h.txts i v m h1 h2).keep k (fun b hb ht => (hT b ht).2.2 ⟨v, Or.inr (List.mem_of_getElem? h1), hb⟩), h.offO, fun b hb => ⟨Nat.lt_of_lt_of_le (h.offL b hb).1 k.size, (h.offL b hb).2⟩, h.new, h.packs, h.m1pos⟩
theorem WSt.all_lt {M B0 : Nat} {w : World} {bw : Nat} {S : WS} (h : WSt M B0 w bw S) : (∀ b, WOwn bw S.vs b → b < w.heap.size) ∧ (∀ p ∈ S.ps, ∀ b, p.F b ∨ p.G b → b < w.heap.size) ∧ (∀ b, LB S b → b < w.heap.size) :=
 ⟨h.core.lt, fun p hp b hb => by
  rcases hb with hb | hb
  ·exact (h.peers p hp).x.lt b hb
  ·exact (h.peers p hp).y.2 b hb, fun b hb => (h.offL b hb).1⟩
theorem WSt.fresh {M B0 : Nat} {w : World} {bw : Nat} {S : WS} (h : WSt M B0 w bw S) {b : Nat} (hb : w.heap.size ≤ b) : ¬ WOwn bw S.vs b ∧ (∀ p ∈ S.ps, ¬ (p.F b ∨ p.G b)) ∧ ¬ LB S b := by
 obtain ⟨h1, h2, h3⟩ := h.all_lt
 exact ⟨fun hh => by have := h1 b hh; omega, fun p hp hh => by have := h2 p hp b hh; omega, fun hh => by have := h3 b hh; omega⟩
theorem WCore.same {w : World} {bw : Nat} {vs vs' : Nat → Value} {len len' : Nat → Nat} {xs xs' : Nat → List Value} (h : WCore w bw vs len xs) (h1 : ∀ j, j < 6 → vs' j = vs j) (h2 : ∀ j, j < 6 → len' j = len j) (h3 : ∀ j, j < 6 → xs' j = xs j) : WCore w bw vs' len' xs' := by
 refine ⟨?_, fun j hj => by rw [h1 j hj, h2 j hj, h3 j hj]; exact h.rows j hj, fun i j hi hj hij b hb => by rw [h1 j hj]; rw [h1 i hi] at hb; exact h.apart i j hi hj hij b hb⟩
 rw [h1 0 (by decide), h1 1 (by decide), h1 2 (by decide), h1 3 (by decide), h1 4 (by decide), h1 5 (by decide)]
 exact h.block
theorem WSt.put {M B0 : Nat} {w w1 : World} {bw : Nat} {S : WS} (h : WSt M B0 w bw S) (hB : B0 ≤ w.heap.size) (j : Nat) (hj : j < 6) (v' : Value) (S' : WS) (hk : Kept (fun k => (S.vs j).ownBlock = some k) w w1) (hown : w1.ownsRow 0 (wT j) (wZ j) v' (S'.len j) (S'.xs j)) (hN : ∀ k, v'.ownBlock = some k → (S.vs j).ownBlock = some k ∨ w.heap.size ≤ k)
  (hvs : S'.vs = updF S.vs j v') (hps : S'.ps = S.ps) (hlen : ∀ i, i < 6 → i ≠ j → S'.len i = S.len i) (hxs : ∀ i, i < 6 → i ≠ j → S'.xs i = S.xs i)
  (hlb : ∀ b, LB S' b → b < w.heap.size ∧ ¬ WOwn bw S.vs b ∧ ∀ p ∈ S.ps, ¬ (p.F b ∨ p.G b)) (hnums : ∀ (i : Nat) (v : Value) (m : Int), S'.ns[i]? = some v → S'.ms0[i]? = some m → FullAt w v (.int .i64 m)) (htxts : ∀ (i : Nat) (v : Value) (m : Int), S'.ts[i]? = some v → S'.ms1[i]? = some m → FullAt w v (.string ⟨(markB m).toArray⟩))
  (hpk : ∀ l ∈ S'.pks, 4 < l.length ∧ l.length ≤ 65536) (hm1 : ∀ m ∈ S'.ms1, 0 ≤ m ∧ m < 4294967296) :
  WSt M B0 (w1.setCell ⟨bw, j, none⟩ v') bw S' ∧ Kept (WOwn bw S.vs) w (w1.setCell ⟨bw, j, none⟩ v') := by
 obtain ⟨c1, c2, c3⟩ := h.core.store j hj v' (S'.len j) (S'.xs j) hk hown hN
 have hc : WCore (w1.setCell ⟨bw, j, none⟩ v') bw S'.vs S'.len S'.xs := by
  refine c1.same (fun i hi => by rw [hvs]) (fun i hi => ?_) (fun i hi => ?_)
  ·by_cases hij : i = j
   ·subst hij; rw [updF_same]
   ·rw [updF_other _ _ _ _ hij]; exact hlen i hi hij
  ·by_cases hij : i = j
   ·subst hij; rw [updF_same]
   ·rw [updF_other _ _ _ _ hij]; exact hxs i hi hij
 refine ⟨h.own hB S'.vs S'.len S'.xs hc c2 (fun b hb => by rw [hvs] at hb; exact c3 b hb) S' rfl rfl rfl hps (fun i v m h1 h2 => (hnums i v m h1 h2).keep c2 (fun b hb ho => (hlb b ⟨v, Or.inl (List.mem_of_getElem? h1), hb⟩).2.1 ho)) (fun i v m h1 h2 => (htxts i v m h1 h2).keep c2 (fun b hb ho => (hlb b ⟨v, Or.inr (List.mem_of_getElem? h1), hb⟩).2.1 ho)) (fun b hb => ?_) hpk hm1, c2⟩
 obtain ⟨a1, a2, a3⟩ := hlb b hb
 refine ⟨Nat.lt_of_lt_of_le a1 c2.size, fun ho => ?_, a3⟩
 rw [hvs] at ho
 rcases c3 b ho with h1 | h1
 ·exact a2 h1
 ·omega
theorem own_set {w : World} {e : TypeId} {g n cap : Nat} {xs : List Value} (h : w.ownsRow 0 e 1 (.slice (some ⟨g, 0, none⟩) n cap) n xs) (k : Nat) (hk : k < n) (u : Value) : (w.setCell ⟨g, k, none⟩ u).ownsRow 0 e 1 (.slice (some ⟨g, 0, none⟩) n cap) n (xs.set k u) := by
 refine ⟨by rw [List.length_set]; exact h.1, ?_⟩
 rcases h.2 with ⟨e1, _⟩ | ⟨g', cap', cur, e1, hb, hg, hnc, hm, hsz, htk⟩
 ·cases e1
 ·injection e1 with x1 x2 x3
  injection x1 with x1
  injection x1 with x1
  subst x1
  subst x3
  refine Or.inr ⟨g, cap, cur.setIfInBounds k u, rfl, hb, heap_set_same hg _ _, hnc, hm, by simpa using hsz, ?_⟩
  rw [Array.toList_setIfInBounds, List.take_set, htk]
theorem full_of_own {w : World} {e : TypeId} {v u : Value} {n : Nat} (h : w.ownsRow 0 e 1 v n (List.replicate n u)) (hn : n ≤ 4294967296) : FullAt w v u := by
 obtain ⟨a, cp, rfl, _, _, f⟩ := own_cells h
 refine ⟨a, n, cp, rfl, hn, fun h0 => ?_⟩
 obtain ⟨g, rfl, hg⟩ := f.resolve_left (by omega)
 exact ⟨g, rfl, fun i hi => hg i u (by rw [List.getElem?_replicate, if_pos hi])⟩
theorem append_fill (P : Program) (w : World) (t tx e : TypeId) (i : TypeInfo) (z u : Value) (bytes : Nat) (ht : P.underlying t = some (.slice e)) (hi : P.info? e = some i) (hz : i.zero = some z)
  (hsize : i.size = 1) (hby : i.bytes = bytes) (hzs : z.cells.size = 1)
  (v : Value) (n : Nat) (hown : w.ownsRow 0 e 1 v n (List.replicate n u)) (x : Value) (m : Nat) (hs : Src P 1 tx x m (List.replicate m u) w) (hm : 0 < m)
  (h63 : n + m ≤ maxLen) (hbytes : (n + m) * bytes ≤ 140737488355328) :
  ∃ v' w', (∀ ty, (Builtin.append_ #[t, tx] ty #[v, x]).run P w = .ok v' w') ∧ w'.ownsRow 0 e 1 v' (n + m) (List.replicate (n + m) u) ∧ w'.ownsRow 0 e 1 v n (List.replicate n u) ∧ (∀ o, FullAt w o u → FullAt w' o u) ∧ Kept (fun k => v.ownBlock = some k) w w' ∧ (∀ k, v'.ownBlock = some k → v.ownBlock = some k ∨ w.heap.size ≤ k) := by
 obtain ⟨v', w', hr, A, D, E⟩ := append_strong P w t tx e i z 1 bytes ht hi hz hsize hby hzs (by decide) v n _ hown x m _ hs hm h63 hbytes
 rw [List.replicate_append_replicate] at A
 have hq : ∀ W : World, Kept (fun _ => False) w W → w' = W → ∃ v' w', (∀ ty, (Builtin.append_ #[t, tx] ty #[v, x]).run P w = .ok v' w') ∧ w'.ownsRow 0 e 1 v' (n + m) (List.replicate (n + m) u) ∧ w'.ownsRow 0 e 1 v n (List.replicate n u) ∧ (∀ o, FullAt w o u → FullAt w' o u) ∧ Kept (fun k => v.ownBlock = some k) w w' ∧ (∀ k, v'.ownBlock = some k → v.ownBlock = some k ∨ w.heap.size ≤ k) := by
  intro W kW hW
  rw [← hW] at kW
  exact ⟨v', w', hr, A, ownsRow_kept hown kW (fun _ _ h => h), fun o ho => ho.keep kW (fun _ _ h => h), D, E⟩
 rcases hown.2 with ⟨hv, h0⟩ | ⟨g, cap, cur, hv, _, hg, hnc, hmx, hcs, htk⟩
 ·refine hq w' (D.mono (fun k _ h => ?_)) rfl
  rw [hv] at h; cases h
 ·subst hv
  by_cases hroom : n + m ≤ cap
  ·have hx := run_append_room_row P w t tx 0 e i ht hi g n cap cur hg x m _ (by rw [hsize]; exact hs) hroom (by rw [hsize, hcs, List.length_replicate]; omega)
   rw [hr 0] at hx
   injection hx with hx1 hx2
   rw [hsize, Nat.mul_one, List.length_replicate] at hx2
   refine ⟨v', w', hr, A, ?_, ?_, D, E⟩
   ·refine ⟨hown.1, Or.inr ⟨g, cap, _, rfl, Nat.zero_le _, by rw [hx2]; exact heap_setRow hg, hnc, hmx, ?_, ?_⟩⟩
    ·rw [List.size_toArray, List.length_append, List.length_append, List.length_take, List.length_drop, List.length_replicate, Array.length_toList, hcs]
     omega
    ·rw [Nat.mul_one, List.append_assoc, List.take_append_of_le_length (by rw [List.length_take, Array.length_toList, hcs]; omega), List.take_take, Nat.min_self]
     rw [Nat.mul_one] at htk
     exact htk
   ·intro o ho
    obtain ⟨a, no, c, rfl, hno, hf⟩ := ho
    refine ⟨a, no, c, rfl, hno, fun h0 => ?_⟩
    obtain ⟨go, rfl, hc⟩ := hf h0
    refine ⟨go, rfl, fun i hi => ?_⟩
    by_cases hgo : go = g
    ·subst hgo
     have h1 := hc i hi
     rw [Lib.cell_of_heap hg, ← Array.getElem?_toList] at h1
     rw [hx2, Lib.cell_of_heap (heap_setRow hg), ← Array.getElem?_toList, List.append_assoc]
     have hil : i < cur.toList.length := (List.getElem?_eq_some_iff.1 h1).1
     have htl : (cur.toList.take n).length = n := by rw [List.length_take, Array.length_toList, hcs]; omega
     by_cases h2 : i < n
     ·rw [List.getElem?_append_left (by omega), List.getElem?_take, if_pos h2]; exact h1
     ·rw [List.getElem?_append_right (by omega), htl]
      by_cases h3 : i - n < m
      ·rw [List.getElem?_append_left (by rw [List.length_replicate]; exact h3), List.getElem?_replicate, if_pos h3]
      ·rw [List.getElem?_append_right (by rw [List.length_replicate]; omega), List.length_replicate, List.getElem?_drop, show n + m + (i - n - m) = i by omega]; exact h1
    ·exact D.cell' (hc i hi) (fun e => hgo (by simpa [Value.ownBlock] using e.symm))
  ·have hold : (Builtin.firstCells i.size n (.slice (some ⟨g, 0, none⟩) n cap)).run P w.drew = .ok (List.replicate n u).toArray w.drew :=
    run_firstCells_some w.drew i.size n ⟨g, 0, none⟩ n cap _ (by rw [hsize, List.length_replicate, Nat.mul_one]) (fun j y hj => by
     have hj2 : j < (List.replicate n u).length := (List.getElem?_eq_some_iff.1 hj).1
     rw [List.length_replicate] at hj2
     rw [Addr.add_lit, Nat.zero_add]
     show w.cell? ⟨g, j, none⟩ = _
     rw [Lib.cell_of_heap hg, ← Array.getElem?_toList, ← hj, ← htk, List.getElem?_take, if_pos (by omega)])
   have hx := run_append_grow_src (P := P) w t tx 0 e i z ht hi hz (some ⟨g, 0, none⟩) n cap _ hold x m _ (by rw [hsize]; exact hs) (by omega) (by unfold maxLen at h63; omega) (growslice_fits (by omega) (by rw [hby]; omega))
   rw [hr 0] at hx
   injection hx with hx1 hx2
   exact hq _ (((Kept.refl _ w).drew).alloc _) hx2
end Go.Proofs.YtgfafbanahiigaaGreat
