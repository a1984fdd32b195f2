import Derived.StillTailTactics
set_option linter.unusedVariables false
set_option linter.unusedSimpArgs false
namespace Go.Proofs.Ytgfafbanahiigaa
open Go

section
variable {P : Program} {ops : Array Oper} {md : Region.Mode} {w : World}

/-- Every operation behind the n-th waits for the n-th or for one between. -/
def behindB (md : Region.Mode) (ops : Array Oper) (n : Nat) : Bool :=
  (List.range ops.size).all fun t => decide (t ≤ n) || (List.range t).any fun j => decide (n ≤ j) && Region.waitsFor md ops t j

theorem behind_waits {n : Nat} {listed : Array Bool} (hs : Region.sinkB md ops n = true) (hc : behindB md ops n = true) (hn : n < ops.size) (inv : HeadInv md ops n listed) :
    ∀ (d i : Nat), n - i = d → i < n → listed.getD i true = false → ∀ t, n ≤ t → t ∉ Region.ready md ops listed := by
  intro d
  induction d using Nat.strongRecOn with
  | _ d ih =>
    intro i hd hi hun t ht hr
    obtain ⟨_, ot, hot, hall⟩ := mem_ready.1 hr
    have htlt : t < ops.size := (Array.getElem?_eq_some_iff.1 hot).1
    by_cases htn : t = n
    · subst htn
      have h1 := List.all_eq_true.1 hs i (List.mem_range.2 hi)
      obtain ⟨j, hj, hj2⟩ := List.any_eq_true.1 h1
      simp only [Bool.and_eq_true, decide_eq_true_eq] at hj2
      obtain ⟨oj, hoj, e, he, hb, hon⟩ := Region.waitsFor_spec hj2.2
      have hjle : j ≤ t := by have := List.mem_range.1 hj; omega
      by_cases hjt : j = t
      · subst hjt
        have : oj = ot := Option.some.inj (hoj.symm.trans hot)
        subst this
        have h2 := hall e he hb
        rw [hon, getD_both hun] at h2
        cases h2
      · cases hl : listed.getD j false with
        | true =>
          have h2 := inv.closed j oj hoj hl e he hb
          rw [hon, getD_both hun] at h2
          cases h2
        | false =>
          have hjs : j < listed.size := by rw [inv.size]; omega
          exact ih (t - j) (by omega) j rfl (by omega) (getD_in hjs hl) t (Nat.le_refl _) hr
    · have h1 := List.all_eq_true.1 hc t (List.mem_range.2 htlt)
      simp only [Bool.or_eq_true, decide_eq_true_eq] at h1
      rcases h1 with h1 | h1
      · omega
      · obtain ⟨j, hj, hj2⟩ := List.any_eq_true.1 h1
        simp only [Bool.and_eq_true, decide_eq_true_eq] at hj2
        have hjt := List.mem_range.1 hj
        obtain ⟨o', ho', e, he, hb, hon⟩ := Region.waitsFor_spec hj2.2
        have : o' = ot := Option.some.inj (ho'.symm.trans hot)
        subst this
        have h2 := hall e he hb
        rw [hon, getD_both (inv.tail j hj2.1 (by omega))] at h2
        cases h2

theorem behind_first {n i : Nat} {oi : Oper} {v : Value} {L : Array Bool → Act → Prop} (hi : ops[i]? = some oi) (hsel : ∀ (j : Nat) (o : Oper) cs b, ops[j]? = some o → o.op ≠ .select cs b)
    (hs : Region.sinkB md ops n = true) (hc : behindB md ops n = true) (hn : n < ops.size) (hin : i < n)
    (hdone : ∀ listed a, L listed a → ∀ j ∈ Region.ready md ops listed, n ≤ j) :
    ∀ (f : Nat) (listed : Array Bool) (a : Act), HeadInv md ops n listed →
      (∀ j oj, ops[j]? = some oj → j ≠ i → listed.getD j true = false → (∀ e ∈ oj.after, Region.binds md e = true → e.on ≠ i) → oi.apart ops oj = true) →
      i ∈ Region.ready md ops listed → YieldsAt P ops w oi v a →
      wpAnyL P md ops w n L f (listed.setIfInBounds i true) (a.put oi.dst v) → wpAnyL P md ops w n L (f + 1) listed a := by
  intro f
  induction f with
  | zero =>
    intro listed a inv _ hr hy H
    have hun := (mem_ready.1 hr).1
    refine ⟨fun h => (by rw [h] at hr; cases hr), fun j hj => ?_⟩
    have hjn : j < n := by
      rcases Nat.lt_or_ge j n with h | h
      · exact h
      · exact absurd hj (behind_waits hs hc hn inv _ i rfl hin hun j h)
    refine ⟨hjn, ?_⟩
    by_cases hji : j = i
    · subst hji; exact hy.stOp hi H
    · have := hdone _ _ H j (ready_mono hj hji)
      omega
  | succ f ih =>
    intro listed a inv hfree hr hy H
    have hun := (mem_ready.1 hr).1
    refine ⟨fun h => (by rw [h] at hr; cases hr), fun j hj => ?_⟩
    have hjn : j < n := by
      rcases Nat.lt_or_ge j n with h | h
      · exact h
      · exact absurd hj (behind_waits hs hc hn inv _ i rfl hin hun j h)
    refine ⟨hjn, ?_⟩
    by_cases hji : j = i
    · subst hji; exact hy.stOp hi H
    · have h1 := (H.2 j (ready_mono hj hji)).2
      obtain ⟨hjun, oj, hoj, hall⟩ := mem_ready.1 hj
      have hnot : ∀ e ∈ oj.after, Region.binds md e = true → e.on ≠ i := fun e he hb heq => by
        have h1 := hall e he hb
        rw [heq, getD_both hun] at h1
        cases h1
      have h2 := stOp_put hoj (hfree j oj hoj hji hjun hnot) (fun cs b => hsel i oi cs b hi) (fun cs b => hsel j oj cs b hoj) hy h1
      have hfree' : ∀ k ok, ops[k]? = some ok → k ≠ i → (listed.setIfInBounds j true).getD k true = false →
          (∀ e ∈ ok.after, Region.binds md e = true → e.on ≠ i) → oi.apart ops ok = true := fun k ok hk hki hun hno => by
        refine hfree k ok hk hki ?_ hno
        by_cases hjk : j = k
        · subst hjk; exact hjun
        · rw [getD_set_ne true hjk] at hun; exact hun
      refine stOp_mono (fun a' h3 => ih (listed.setIfInBounds j true) a' (inv.set hj hjn) hfree' (ready_mono hr (Ne.symm hji)) h3.1 ?_) h2
      rw [Array.setIfInBounds_comm _ _ hji]
      exact h3.2

/-- A middle of g operations that goes just so, and behind it m that read. -/
def midB (md : Region.Mode) (ops : Array Oper) (m : Nat) : Nat → Nat → Array Bool → Bool
  | 0, k, listed => Region.lexFrom md ops m k listed
  | g + 1, k, listed => decide (Region.ready md ops listed = [k]) && midB md ops m g (k + 1) (listed.setIfInBounds k true)

/-- What the middle must reach: the reading ones behind it. -/
def midEnd (P : Program) (ops : Array Oper) (Q : Exit → Act → World → Prop) (l : List Oper) : Exit → Act → World → Prop
  | .normal, a, w => wpStill P ops w (fun a' => Q .normal a' w) l a
  | .exit i, a, w => Q (.exit i) a w
  | .goto i, a, w => Q (.goto i) a w
  | .ret, a, w => Q .ret a w
  | .panic c, a, w => Q (.panic c) a w
  | .outgrown, a, w => Q .outgrown a w

theorem mid_out {Q : Exit → Act → World → Prop} {l : List Oper} (h : LetsOut (midEnd P ops Q l)) : LetsOut Q := by
  obtain ⟨a, w, h⟩ := h
  exact ⟨a, w, h⟩

theorem mid_op {Q : Exit → Act → World → Prop} {l : List Oper} {i : Nat} {K : Act → World → Prop} {a : Act} {w : World} (hh : wpOp P ops (midEnd P ops Q l) i K a w) : wpOp P ops Q i K a w := by
  unfold wpOp at *
  split
  · rename_i ho; simpa [ho] using hh
  · rename_i o ho
    simp only [ho] at hh
    split
    · rename_i hw
      simp only [hw, if_true] at hh
      refine hh.imp (fun h => ?_) (fun h => ⟨h.1, mid_out h.2⟩)
      unfold Oper.wp at *
      generalize (execOp a.eval o).run P w = r at *
      cases r with
      | ok n w' =>
        cases n <;> simp only [Oper.upon] at h ⊢ <;>
          first
            | exact h
            | exact Calls.mono h (fun e w'' he => by cases e <;> first | exact he | exact mid_out he)
      | halt x w' => cases x <;> simp only [Oper.upon] at h ⊢ <;> exact h
    · rename_i hw; simp only [hw] at hh; exact hh

theorem wpAny_of_mid {Q : Exit → Act → World → Prop} (hsel : Region.noSelect ops = true) (l2 : List Oper) : ∀ (l1 : List Oper) (k : Nat) (listed : Array Bool) (a : Act) (w : World), (∀ j, j < l1.length → l1[j]? = ops[k + j]?) → (∀ j, l2[j]? = ops[k + l1.length + j]?) →
    midB md ops l2.length l1.length k listed = true → wpList P ops (midEnd P ops Q l2) l1 a w → wpAny P md ops Q (l1.length + l2.length) listed a w
  | [], k, listed, a, w, _, hl2, hB, h => by
    have hB' : Region.lexFrom md ops l2.length k listed = true := hB
    have h' : wpStill P ops w (fun a' => Q .normal a' w) l2 a := h
    have := wpAny_of_still (Q' := Q) (fun _ h => h) _ _ _ (wpAnyS_lex (md := md) hsel l2 k listed a (by simpa using hl2) hB' h')
    simpa using this
  | o :: l, k, listed, a, w, hl, hl2, hB, h => by
    have h0 : ops[k]? = some o := by simpa using (hl 0 (by simp)).symm
    simp only [List.length_cons, midB, Bool.and_eq_true, decide_eq_true_eq] at hB
    rw [show (o :: l).length + l2.length = (l.length + l2.length) + 1 by simp; omega]
    refine ⟨fun h1 => (by rw [hB.1] at h1; cases h1), fun i hi => ?_⟩
    rw [hB.1] at hi
    have hik : i = k := by simpa using hi
    subst hik
    have hw : wpOp P ops (midEnd P ops Q l2) i (wpList P ops (midEnd P ops Q l2) l) a w := by unfold wpOp; simp only [h0]; exact h
    exact wpOp_mono (fun a' w' h' => wpAny_of_mid hsel l2 l (i + 1) _ a' w' (fun j hj => by have := hl (j + 1) (by simp; omega); simpa [Nat.add_assoc, Nat.add_comm 1 j] using this)
      (fun j => by have := hl2 j; rw [this]; congr 1; simp; omega) hB.2 h') (mid_op hw)

def headB (md : Region.Mode) (ops : Array Oper) (m g : Nat) : Nat → Nat → Array Bool → Bool
  | 0, k, listed => midB md ops m g k listed
  | f + 1, k, listed => (Region.ready md ops listed).contains k && Region.free md ops listed k && headB md ops m g f (k + 1) (listed.setIfInBounds k true)

theorem mid_ready {m g k : Nat} {listed : Array Bool} (hg : 0 < g) (h : midB md ops m g k listed = true) : ∀ j ∈ Region.ready md ops listed, k ≤ j := by
  cases g with
  | zero => omega
  | succ g =>
    intro j hj
    simp only [midB, Bool.and_eq_true, decide_eq_true_eq] at h
    rw [h.1] at hj
    have : j = k := by simpa using hj
    omega

theorem wpAnyL_head {n m g : Nat} {Lq : Act → Prop} (hg : 0 < g) (hsel : Region.noSelect ops = true) (hs : Region.sinkB md ops n = true) (hc : behindB md ops n = true) (hn : n < ops.size) :
    ∀ (l : List Oper) (k : Nat) (listed : Array Bool) (a : Act), (∀ j, j < l.length → l[j]? = ops[k + j]?) → k + l.length = n → HeadInv md ops n listed →
    headB md ops m g l.length k listed = true → wpStill P ops w Lq l a →
    wpAnyL P md ops w n (fun listed' a' => midB md ops m g n listed' = true ∧ Lq a') l.length listed a
  | [], k, listed, a, _, hk, _, hB, h => by
    have : k = n := by simpa using hk
    subst this
    exact ⟨by simpa [headB] using hB, h⟩
  | o :: l, k, listed, a, hl, hk, inv, hB, h => by
    have h0 : ops[k]? = some o := by simpa using (hl 0 (by simp)).symm
    simp only [List.length_cons, headB, Bool.and_eq_true] at hB
    obtain ⟨⟨hr, hf⟩, hB'⟩ := hB
    have hkn : k < n := by simp only [List.length_cons] at hk; omega
    have hr' : k ∈ Region.ready md ops listed := by simpa using hr
    have hst : stOp P ops w k (wpStill P ops w Lq l) a := by unfold stOp; simp only [h0]; exact h
    obtain ⟨v, hy, hK⟩ := yieldsAt_of_stOp h0 hst
    exact behind_first h0 (Region.noSelect_spec hsel) hs hc hn hkn (fun listed' a' hL => mid_ready hg hL.1) l.length listed a inv (Region.free_spec h0 hf) hr' hy
      (wpAnyL_head hg hsel hs hc hn l (k + 1) _ _ (fun j hj => by have := hl (j + 1) (by simp; omega); simpa [Nat.add_assoc, Nat.add_comm 1 j] using this) (by simp only [List.length_cons] at hk; omega) (inv.set hr' hkn) hB' hK)

/-- n operations that read, g that go just so, and the rest read again. -/
def threeB (md : Region.Mode) (ops : Array Oper) (n g : Nat) : Bool :=
  Region.noSelect ops && decide (n + g ≤ ops.size) && decide (0 < g) && Region.sinkB md ops n && behindB md ops n && headB md ops (ops.size - (n + g)) g n 0 (Array.replicate ops.size false)

theorem wp_region_three {id : Nat} {Q : Exit → Act → World → Prop} {a : Act} {w : World} {l : List Oper} (n g : Nat) (hm : P.follows .mixedOrders = true) (hB : threeB .any l.toArray n g = true)
    (h : wpStill P l.toArray { w with drawn := w.drawn + 1 } (fun a' => wpList P l.toArray (midEnd P l.toArray Q (l.drop (n + g))) ((l.drop n).take g) a' { w with drawn := w.drawn + 1 }) (l.take n) a) : (Code.region id l.toArray true).wp P Q a w := by
  simp only [threeB, Bool.and_eq_true, decide_eq_true_eq] at hB
  obtain ⟨⟨⟨⟨⟨hsel, hn⟩, hg⟩, hs⟩, hc⟩, hlex⟩ := hB
  have hn' : n + g ≤ l.length := by simpa using hn
  have htl : (l.take n).length = n := by simp; omega
  have hml : ((l.drop n).take g).length = g := by simp; omega
  have hdl : (l.drop (n + g)).length = l.toArray.size - (n + g) := by simp
  have inv0 : HeadInv .any l.toArray n (Array.replicate l.toArray.size false) :=
    ⟨by simp, fun j oj _ hl => (by rw [getD_replicate_false] at hl; cases hl), fun t _ ht => getD_in (by simpa using ht) (getD_replicate_false _ _)⟩
  have H := wpAnyL_head (md := .any) (m := l.toArray.size - (n + g)) (g := g) hg hsel hs hc (by simp; omega) (l.take n) 0 _ a (fun j hj => by
    have hj' : j < n := by rw [htl] at hj; exact hj
    simp [hj']) (by simpa using htl) inv0 (by rw [htl]; exact hlex) h
  refine wp_region_any hm ?_
  have := wpAny_of_head (Q' := Q) (g := g + (l.toArray.size - (n + g))) (fun listed a' hL => by
    have := wpAny_of_mid (md := .any) (Q := Q) hsel (l.drop (n + g)) ((l.drop n).take g) n listed a' { w with drawn := w.drawn + 1 } (fun j hj => by
      rw [hml] at hj
      simp [List.getElem?_take, List.getElem?_drop, hj]) (fun j => by rw [hml]; simp [List.getElem?_drop]) (by rw [hdl, hml]; exact hL.1) hL.2
    rwa [hdl, hml] at this) _ _ _ H
  rw [htl, show n + (g + (l.toArray.size - (n + g))) = l.toArray.size by simp; omega] at this
  exact this
end
end Go.Proofs.Ytgfafbanahiigaa

set_option linter.unusedVariables false
set_option linter.unusedSimpArgs false
namespace Go.Proofs.Ytgfafbanahiigaa
open Go

section
variable {P : Program} {ops : Array Oper} {md : Region.Mode}

/-- Of the operations from the m-th to before the n-th, each is awaited by one up to the n-th. -/
def sinkFrom (md : Region.Mode) (ops : Array Oper) (m n : Nat) : Bool :=
  (List.range n).all fun i => decide (i < m) || (List.range (n + 1)).any fun j => decide (i < j) && Region.waitsFor md ops j i

theorem sink_not_ready {m n k : Nat} {listed : Array Bool} (hs : sinkFrom md ops m n = true) (hnk : n < k) (inv : HeadInv md ops k listed) (hn : n < ops.size) :
    ∀ (d i : Nat), n - i = d → m ≤ i → i < n → listed.getD i true = false → n ∉ Region.ready md ops listed := by
  intro d
  induction d using Nat.strongRecOn with
  | _ d ih =>
    intro i hd hmi hi hun hr
    obtain ⟨_, ot, hot, hall⟩ := mem_ready.1 hr
    have h1 := List.all_eq_true.1 hs i (List.mem_range.2 hi)
    simp only [Bool.or_eq_true, decide_eq_true_eq] at h1
    rcases h1 with h1 | h1
    · omega
    obtain ⟨j, hj, hj2⟩ := List.any_eq_true.1 h1
    simp only [Bool.and_eq_true, decide_eq_true_eq] at hj2
    obtain ⟨oj, hoj, e, he, hb, hon⟩ := Region.waitsFor_spec hj2.2
    have hjle : j ≤ n := by have := List.mem_range.1 hj; omega
    by_cases hjt : j = n
    · subst hjt
      have : oj = ot := Option.some.inj (hoj.symm.trans hot)
      subst this
      have h2 := hall e he hb
      rw [hon, getD_both hun] at h2
      cases h2
    · cases hl : listed.getD j false with
      | true =>
        have h2 := inv.closed j oj hoj hl e he hb
        rw [hon, getD_both hun] at h2
        cases h2
      | false =>
        have hjs : j < listed.size := by rw [inv.size]; omega
        exact ih (n - j) (by omega) j rfl (by omega) (by omega) (getD_in hjs hl) hr

/-- The world while the operation s, which lays a block, is or is not done. -/
def wTh (w0 w1 : World) (s : Nat) (listed : Array Bool) : World := if listed.getD s false then w1 else w0

theorem wTh_set_ne {w0 w1 : World} {s i : Nat} {listed : Array Bool} (h : i ≠ s) : wTh w0 w1 s (listed.setIfInBounds i true) = wTh w0 w1 s listed := by
  unfold wTh; rw [getD_set_ne false h]

theorem wTh_un {w0 w1 : World} {s : Nat} {listed : Array Bool} (h : listed.getD s true = false) : wTh w0 w1 s listed = w0 := by
  unfold wTh; rw [getD_both h]; rfl

theorem wTh_set {w0 w1 : World} {s : Nat} {listed : Array Bool} (h : s < listed.size) : wTh w0 w1 s (listed.setIfInBounds s true) = w1 := by
  unfold wTh; simp [h]

def Makes (P : Program) (ops : Array Oper) (w0 w1 : World) (o : Oper) (v : Value) (a : Act) : Prop :=
  Region.wanted o (yielded ops a.tmps) = true ∧ (execOp a.eval o).run P w0 = .ok (.value v) w1

def wpAnyT (P : Program) (md : Region.Mode) (ops : Array Oper) (w0 w1 : World) (s : Nat) (os : Oper) (vs : Value) (L : Array Bool → Act → Prop) : Nat → Array Bool → Act → Prop
  | 0, listed, a => L listed a
  | f + 1, listed, a =>
    Region.ready md ops listed ≠ [] ∧ ∀ i ∈ Region.ready md ops listed, i < s + 1 ∧
      (i = s → Makes P ops w0 w1 os vs a ∧ wpAnyT P md ops w0 w1 s os vs L f (listed.setIfInBounds s true) (a.put os.dst vs)) ∧
      (i ≠ s → stOp P ops (wTh w0 w1 s listed) i (wpAnyT P md ops w0 w1 s os vs L f (listed.setIfInBounds i true)) a)

variable {w0 w1 : World} {s : Nat} {os : Oper} {vs : Value} {L : Array Bool → Act → Prop}

theorem wpAny_of_T {g : Nat} {Q : Exit → Act → World → Prop} (hos : ops[s]? = some os) (hL : ∀ listed a, L listed a → listed.getD s false = true ∧ wpAny P md ops Q g listed a w1) :
    ∀ (f : Nat) (listed : Array Bool) (a : Act), listed.size = ops.size → wpAnyT P md ops w0 w1 s os vs L f listed a → wpAny P md ops Q (f + g) listed a (wTh w0 w1 s listed)
  | 0, listed, a, _, h => by
    rw [Nat.zero_add]
    have := hL _ _ h
    unfold wTh
    rw [this.1]
    exact this.2
  | f + 1, listed, a, hz, h => by
    rw [show f + 1 + g = (f + g) + 1 by omega]
    refine ⟨fun h0 => absurd h0 h.1, fun i hi => ?_⟩
    have hs := (Array.getElem?_eq_some_iff.1 hos).1
    obtain ⟨_, h1, h2⟩ := h.2 i hi
    by_cases his : i = s
    · rw [his] at hi ⊢
      obtain ⟨⟨hw, hrun⟩, hT⟩ := h1 his
      rw [wTh_un (mem_ready.1 hi).1]
      have := wpAny_of_T hos hL f (listed.setIfInBounds s true) _ (by simpa using hz) hT
      rw [wTh_set (by omega)] at this
      unfold wpOp
      simp only [hos, hw, if_true]
      left
      unfold Oper.wp
      rw [hrun]
      exact this
    · have h3 := h2 his
      refine wpOp_of_stOp (fun a' h' => ?_) h3
      have := wpAny_of_T hos hL f (listed.setIfInBounds i true) a' (by simpa using hz) h'
      rw [wTh_set_ne his] at this
      exact this

theorem T_first {m i : Nat} {oi : Oper} {v : Value} (hi : ops[i]? = some oi) (hos : ops[s]? = some os) (hsel : ∀ (j : Nat) (o : Oper) cs b, ops[j]? = some o → o.op ≠ .select cs b)
    (hs : Region.sinkB md ops (s + 1) = true) (hc : behindB md ops (s + 1) = true) (hsf : sinkFrom md ops m s = true) (hn : s + 1 < ops.size) (hin : i < s)
    (hdone : ∀ listed a, L listed a → ∀ j ∈ Region.ready md ops listed, s + 1 ≤ j) :
    ∀ (f : Nat) (listed : Array Bool) (a : Act), HeadInv md ops (s + 1) listed →
      (∀ j oj, ops[j]? = some oj → j ≠ i → listed.getD j true = false → (∀ e ∈ oj.after, Region.binds md e = true → e.on ≠ i) → oi.apart ops oj = true) →
      i ∈ Region.ready md ops listed → YieldsAt P ops (wTh w0 w1 s listed) oi v a → (i < m → YieldsAt P ops w1 oi v a) →
      wpAnyT P md ops w0 w1 s os vs L f (listed.setIfInBounds i true) (a.put oi.dst v) → wpAnyT P md ops w0 w1 s os vs L (f + 1) listed a := by
  intro f
  induction f with
  | zero =>
    intro listed a inv _ hr hy _ H
    have hun := (mem_ready.1 hr).1
    refine ⟨fun h => (by rw [h] at hr; cases hr), fun j hj => ?_⟩
    have hjn : j < s + 1 := by
      rcases Nat.lt_or_ge j (s + 1) with h | h
      · exact h
      · exact absurd hj (behind_waits hs hc hn inv _ i rfl (by omega) hun j h)
    refine ⟨hjn, ?_⟩
    by_cases hji : j = i
    · subst hji
      exact ⟨fun h => absurd h (by omega), fun _ => hy.stOp hi H⟩
    · have := hdone _ _ H j (ready_mono hj hji)
      omega
  | succ f ih =>
    intro listed a inv hfree hr hy hy1 H
    have hun := (mem_ready.1 hr).1
    refine ⟨fun h => (by rw [h] at hr; cases hr), fun j hj => ?_⟩
    have hjn : j < s + 1 := by
      rcases Nat.lt_or_ge j (s + 1) with h | h
      · exact h
      · exact absurd hj (behind_waits hs hc hn inv _ i rfl (by omega) hun j h)
    refine ⟨hjn, ?_⟩
    by_cases hji : j = i
    · subst hji
      exact ⟨fun h => absurd h (by omega), fun _ => hy.stOp hi H⟩
    · obtain ⟨_, hA, hB⟩ := H.2 j (ready_mono hj hji)
      obtain ⟨hjun, oj, hoj, hall⟩ := mem_ready.1 hj
      have hnot : ∀ e ∈ oj.after, Region.binds md e = true → e.on ≠ i := fun e he hb heq => by
        have h1 := hall e he hb
        rw [heq, getD_both hun] at h1
        cases h1
      have hap := hfree j oj hoj hji hjun hnot
      obtain ⟨h1, h2, h3⟩ := Oper.apart_spec hap
      have keep : ∀ (W : World) (a : Act), YieldsAt P ops W oi v a → ∀ u, YieldsAt P ops W oi v (a.put oj.dst u) := fun W a hy u =>
        hy.of_same (execOp_put oi (fun cs b => hsel i oi cs b hi) a oj.dst u h3) (wanted_put oi a oj.dst u h3)
      have hfree' : ∀ k ok, ops[k]? = some ok → k ≠ i → (listed.setIfInBounds j true).getD k true = false →
          (∀ e ∈ ok.after, Region.binds md e = true → e.on ≠ i) → oi.apart ops ok = true := fun k ok hk hki hun hno => by
        refine hfree k ok hk hki ?_ hno
        by_cases hjk : j = k
        · subst hjk; exact hjun
        · rw [getD_set_ne true hjk] at hun; exact hun
      refine ⟨fun hjs => ?_, fun hjs => ?_⟩
      · subst hjs
        have hoo : oj = os := Option.some.inj (hoj.symm.trans hos)
        subst hoo
        have him : i < m := by
          rcases Nat.lt_or_ge i m with h | h
          · exact h
          · exact absurd hj (sink_not_ready hsf (Nat.lt_succ_self _) inv (by omega) _ i rfl h hin hun)
        obtain ⟨⟨hw, hrun⟩, hT⟩ := hA rfl
        rw [wanted_put oj a oi.dst v h1] at hw
        rw [execOp_put oj (fun cs b => hsel _ oj cs b hoj) a oi.dst v h1] at hrun
        refine ⟨⟨hw, hrun⟩, ?_⟩
        have hz : j < listed.size := by rw [inv.size]; omega
        refine ih (listed.setIfInBounds j true) _ (inv.set hj hjn) hfree' (ready_mono hr (Ne.symm hji)) ?_ (fun h => keep _ _ (hy1 h) _) ?_
        · rw [wTh_set hz]; exact keep _ _ (hy1 him) _
        · rw [Array.setIfInBounds_comm _ _ hji, ← Act.put_comm a v vs h2]
          exact hT
      · have h4 := hB hjs
        rw [wTh_set_ne (show i ≠ s by omega)] at h4
        obtain ⟨u, hyj, hK⟩ := yieldsAt_of_stOp hoj h4
        have hyj' : YieldsAt P ops (wTh w0 w1 s listed) oj u a :=
          hyj.of_same (execOp_put oj (fun cs b => hsel _ oj cs b hoj) a oi.dst v h1).symm (wanted_put oj a oi.dst v h1).symm
        refine hyj'.stOp hoj ?_
        refine ih (listed.setIfInBounds j true) _ (inv.set hj hjn) hfree' (ready_mono hr (Ne.symm hji)) ?_ (fun h => keep _ _ (hy1 h) _) ?_
        · rw [wTh_set_ne hjs]; exact keep _ _ hy _
        · rw [Array.setIfInBounds_comm _ _ hji, ← Act.put_comm a v u h2]
          exact hK

theorem HeadInv.up {n : Nat} {listed : Array Bool} (inv : HeadInv md ops n listed) : HeadInv md ops (n + 1) listed :=
  ⟨inv.size, inv.closed, fun t ht ht' => inv.tail t (by omega) ht'⟩

/-- What stands behind the block laid: the middle may begin. -/
def endT (md : Region.Mode) (ops : Array Oper) (mm g s : Nat) (Lq : Act → Prop) (listed : Array Bool) (a : Act) : Prop :=
  listed.getD s false = true ∧ midB md ops mm g (s + 1) listed = true ∧ Lq a

theorem T_still {m mm g : Nat} {Lq : Act → Prop} (hg : 0 < g) (hos : ops[s]? = some os) (hsel : Region.noSelect ops = true) (hs : Region.sinkB md ops (s + 1) = true) (hc : behindB md ops (s + 1) = true) (hsf : sinkFrom md ops m s = true) (hn : s + 1 < ops.size) :
    ∀ (l : List Oper) (k : Nat) (listed : Array Bool) (a : Act), (∀ j, j < l.length → l[j]? = ops[k + j]?) → k + l.length = s → m ≤ k → HeadInv md ops s listed →
    headB md ops mm (g + 1) l.length k listed = true → wpStill P ops w0 (fun a' => Makes P ops w0 w1 os vs a' ∧ Lq (a'.put os.dst vs)) l a →
    wpAnyT P md ops w0 w1 s os vs (endT md ops mm g s Lq) (l.length + 1) listed a
  | [], k, listed, a, _, hk, _, inv, hB, h => by
    have : k = s := by simpa using hk
    subst this
    have hB' : midB md ops mm (g + 1) k listed = true := hB
    simp only [midB, Bool.and_eq_true, decide_eq_true_eq] at hB'
    refine ⟨fun h => (by rw [hB'.1] at h; cases h), fun i hi => ?_⟩
    rw [hB'.1] at hi
    have hik : i = k := by simpa using hi
    subst hik
    have hz : i < listed.size := by rw [inv.size]; omega
    exact ⟨by omega, fun _ => ⟨h.1, by simp [hz], hB'.2, h.2⟩, fun h => absurd rfl h⟩
  | o :: l, k, listed, a, hl, hk, hmk, inv, hB, h => by
    have h0 : ops[k]? = some o := by simpa using (hl 0 (by simp)).symm
    simp only [List.length_cons, headB, Bool.and_eq_true] at hB
    obtain ⟨⟨hr, hf⟩, hB'⟩ := hB
    have hkn : k < s := by simp only [List.length_cons] at hk; omega
    have hr' : k ∈ Region.ready md ops listed := by simpa using hr
    have hst : stOp P ops w0 k (wpStill P ops w0 (fun a' => Makes P ops w0 w1 os vs a' ∧ Lq (a'.put os.dst vs)) l) a := by unfold stOp; simp only [h0]; exact h
    obtain ⟨v, hy, hK⟩ := yieldsAt_of_stOp h0 hst
    have hsu : listed.getD s true = false := inv.tail s (Nat.le_refl _) (by omega)
    refine T_first (m := m) h0 hos (Region.noSelect_spec hsel) hs hc hsf hn hkn (fun listed' a' hL => mid_ready hg hL.2.1) (l.length + 1) listed a (HeadInv.up inv) (Region.free_spec h0 hf) hr' (by rw [wTh_un hsu]; exact hy) (fun h => absurd h (by omega))
      (T_still hg hos hsel hs hc hsf hn l (k + 1) _ _ (fun j hj => by have := hl (j + 1) (by simp; omega); simpa [Nat.add_assoc, Nat.add_comm 1 j] using this) (by simp only [List.length_cons] at hk; omega) (by omega) (inv.set hr' hkn) hB' hK)

/-- Operations that read the same before the block is laid and behind. -/
def wpTwo (P : Program) (ops : Array Oper) (w0 w1 : World) (Q : Act → Prop) : List Oper → Act → Prop
  | [], a => Q a
  | o :: l, a => ∃ v, YieldsAt P ops w0 o v a ∧ YieldsAt P ops w1 o v a ∧ wpTwo P ops w0 w1 Q l (a.put o.dst v)

theorem T_two {m mm g : Nat} {Lq : Act → Prop} (hg : 0 < g) (hos : ops[s]? = some os) (hsel : Region.noSelect ops = true) (hs : Region.sinkB md ops (s + 1) = true) (hc : behindB md ops (s + 1) = true) (hsf : sinkFrom md ops m s = true) (hn : s + 1 < ops.size)
    (l2 : List Oper) (hl2 : ∀ j, j < l2.length → l2[j]? = ops[m + j]?) (hk2 : m + l2.length = s) :
    ∀ (l : List Oper) (k : Nat) (listed : Array Bool) (a : Act), (∀ j, j < l.length → l[j]? = ops[k + j]?) → k + l.length = m → HeadInv md ops s listed →
    headB md ops mm (g + 1) (l.length + l2.length) k listed = true → wpTwo P ops w0 w1 (wpStill P ops w0 (fun a' => Makes P ops w0 w1 os vs a' ∧ Lq (a'.put os.dst vs)) l2) l a →
    wpAnyT P md ops w0 w1 s os vs (endT md ops mm g s Lq) (l.length + l2.length + 1) listed a
  | [], k, listed, a, _, hk, inv, hB, h => by
    have : k = m := by simpa using hk
    subst this
    have := T_still hg hos hsel hs hc hsf hn l2 k listed a hl2 hk2 (Nat.le_refl _) inv (by simpa using hB) h
    simpa using this
  | o :: l, k, listed, a, hl, hk, inv, hB, h => by
    have h0 : ops[k]? = some o := by simpa using (hl 0 (by simp)).symm
    rw [show (o :: l).length + l2.length = (l.length + l2.length) + 1 by simp; omega] at hB ⊢
    simp only [headB, Bool.and_eq_true] at hB
    obtain ⟨⟨hr, hf⟩, hB'⟩ := hB
    have hkn : k < s := by simp only [List.length_cons] at hk; omega
    have hr' : k ∈ Region.ready md ops listed := by simpa using hr
    obtain ⟨v, hy, hy1, hK⟩ := h
    have hsu : listed.getD s true = false := inv.tail s (Nat.le_refl _) (by omega)
    refine T_first (m := m) h0 hos (Region.noSelect_spec hsel) hs hc hsf hn hkn (fun listed' a' hL => mid_ready hg hL.2.1) (l.length + l2.length + 1) listed a (HeadInv.up inv) (Region.free_spec h0 hf) hr' (by rw [wTh_un hsu]; exact hy) (fun _ => hy1)
      (T_two hg hos hsel hs hc hsf hn l2 hl2 hk2 l (k + 1) _ _ (fun j hj => by have := hl (j + 1) (by simp; omega); simpa [Nat.add_assoc, Nat.add_comm 1 j] using this) (by simp only [List.length_cons] at hk; omega) (inv.set hr' hkn) hB' hK)

/-- m that read what the block laid leaves, more that read, the s-th lays a block, g that go just so, and the rest read again. -/
def fourB (md : Region.Mode) (ops : Array Oper) (m s g : Nat) : Bool :=
  Region.noSelect ops && decide (m ≤ s) && decide (s + 1 + g ≤ ops.size) && decide (0 < g) && Region.sinkB md ops (s + 1) && behindB md ops (s + 1) && sinkFrom md ops m s && headB md ops (ops.size - (s + 1 + g)) (g + 1) s 0 (Array.replicate ops.size false)

theorem wp_region_four {id : Nat} {Q : Exit → Act → World → Prop} {a : Act} {w : World} {l : List Oper} (m s g : Nat) (w1 : World) (vs : Value) (hm : P.follows .mixedOrders = true) (hB : fourB .any l.toArray m s g = true) (hos : l[s]? = some os)
    (h : wpTwo P l.toArray { w with drawn := w.drawn + 1 } w1 (wpStill P l.toArray { w with drawn := w.drawn + 1 } (fun a' => Makes P l.toArray { w with drawn := w.drawn + 1 } w1 os vs a' ∧
      wpList P l.toArray (midEnd P l.toArray Q (l.drop (s + 1 + g))) ((l.drop (s + 1)).take g) (a'.put os.dst vs) w1) ((l.take s).drop m)) (l.take m) a) : (Code.region id l.toArray true).wp P Q a w := by
  simp only [fourB, Bool.and_eq_true, decide_eq_true_eq] at hB
  obtain ⟨⟨⟨⟨⟨⟨⟨hsel, hms⟩, hn⟩, hg⟩, hs⟩, hc⟩, hsf⟩, hlex⟩ := hB
  have hn' : s + 1 + g ≤ l.length := by simpa using hn
  have htl : (l.take m).length = m := by simp; omega
  have hdl2 : ((l.take s).drop m).length = s - m := by simp; omega
  have hml : ((l.drop (s + 1)).take g).length = g := by simp; omega
  have hdl : (l.drop (s + 1 + g)).length = l.toArray.size - (s + 1 + g) := by simp
  have inv0 : HeadInv .any l.toArray s (Array.replicate l.toArray.size false) :=
    ⟨by simp, fun j oj _ hl => (by rw [getD_replicate_false] at hl; cases hl), fun t _ ht => getD_in (by simpa using ht) (getD_replicate_false _ _)⟩
  have H := T_two (md := .any) (m := m) (mm := l.toArray.size - (s + 1 + g)) (g := g) (s := s) (os := os) (vs := vs) (Lq := fun a' => wpList P l.toArray (midEnd P l.toArray Q (l.drop (s + 1 + g))) ((l.drop (s + 1)).take g) a' w1) hg (by simpa using hos) hsel hs hc hsf (by simp; omega) ((l.take s).drop m) (fun j hj => by
      rw [hdl2] at hj
      simp [List.getElem?_take, List.getElem?_drop, show m + j < s by omega]) (by rw [hdl2]; omega) (l.take m) 0 _ a (fun j hj => by
    have hj' : j < m := by rw [htl] at hj; exact hj
    simp [hj']) (by simpa using htl) inv0 (by rw [htl, hdl2, show m + (s - m) = s by omega]; exact hlex) h
  refine wp_region_any hm ?_
  have := wpAny_of_T (Q := Q) (g := g + (l.toArray.size - (s + 1 + g))) (by simpa using hos) (fun listed a' hL => ⟨hL.1, by
    have := wpAny_of_mid (md := .any) (Q := Q) hsel (l.drop (s + 1 + g)) ((l.drop (s + 1)).take g) (s + 1) listed a' w1 (fun j hj => by
      rw [hml] at hj
      simp [List.getElem?_take, List.getElem?_drop, hj]) (fun j => by rw [hml]; simp [List.getElem?_drop]) (by rw [hdl, hml]; exact hL.2.1) hL.2.2
    rwa [hdl, hml] at this⟩) _ _ _ (by simp) H
  rw [htl, hdl2, show m + (s - m) + 1 + (g + (l.toArray.size - (s + 1 + g))) = l.toArray.size by simp; omega, wTh_un (getD_in (by simp; omega) (getD_replicate_false _ _))] at this
  exact this

theorem two_nil {Q : Act → Prop} {a : Act} (h : Q a) : wpTwo P ops w0 w1 Q [] a := h

/-- One that reads, by the walk at both worlds. -/
theorem two_step {Q : Act → Prop} {a : Act} {o : Oper} {l : List Oper} {d : Nat} (v : Value) (hd : o.dst = some d) (hz : d < a.tmps.size)
    (h0 : ∀ K : Act → Prop, K (a.put o.dst v) → if Region.wanted o (yielded ops a.tmps) then o.still P a w0 K else K (a.put o.dst undef))
    (h1 : ∀ K : Act → Prop, K (a.put o.dst v) → if Region.wanted o (yielded ops a.tmps) then o.still P a w1 K else K (a.put o.dst undef))
    (h : wpTwo P ops w0 w1 Q l (a.put o.dst v)) : wpTwo P ops w0 w1 Q (o :: l) a := by
  have key : ∀ W : World, (∀ K : Act → Prop, K (a.put o.dst v) → if Region.wanted o (yielded ops a.tmps) then o.still P a W K else K (a.put o.dst undef)) → YieldsAt P ops W o v a := fun W hW => by
    have h2 := hW (fun a' => a' = a.put o.dst v) rfl
    have hinj : ∀ u, a.put o.dst u = a.put o.dst v → u = v := fun u hu => by
      rw [hd] at hu
      have := congrArg (fun b => b.tmps[d]?) hu
      simpa [Act.put, hz] using this
    unfold YieldsAt
    by_cases hw : Region.wanted o (yielded ops a.tmps) = true
    · rw [if_pos hw] at h2
      left
      refine ⟨hw, ?_⟩
      unfold Oper.still at h2
      generalize hr : (execOp a.eval o).run P W = r at h2
      cases r with
      | ok n w' =>
        cases n <;> simp only [Oper.stillUpon] at h2
        case value u => obtain ⟨rfl, h3⟩ := h2; rw [hinj u h3]; exact .inl rfl
        case skip => obtain ⟨rfl, h3⟩ := h2; exact .inr (.inl ⟨rfl, (hinj _ h3).symm⟩)
        case enter f args => obtain ⟨rfl, u, hc, h3⟩ := h2; rw [hinj u h3] at hc; exact .inr (.inr ⟨f, args, rfl, hc⟩)
      | halt x w' => simp only [Oper.stillUpon] at h2
    · rw [if_neg hw] at h2
      right
      exact ⟨by simpa using hw, (hinj _ h2).symm⟩
  exact ⟨v, key w0 h0, key w1 h1, h⟩
end
end Go.Proofs.Ytgfafbanahiigaa
