import Derived.Test.YtgfafbanahiigaaGreatMA
set_option linter.unusedVariables false
set_option linter.unusedSimpArgs false
namespace Go.Chorus
def lessO (a b : Ope) : Bool := decide (a.clock < b.clock) || (decide (a.clock = b.clock) && decide (a.peer < b.peer))
theorem lessO_iff (a b : Ope) : lessO a b = true ↔ a.clock < b.clock ∨ (a.clock = b.clock ∧ a.peer < b.peer) := by
 simp [lessO]
def Merged : List (List Ope) → List Ope → Prop
 | ls, [] => ∀ l ∈ ls, l = []
 | ls, o :: r => ∃ (i : Nat) (t : List Ope), ls[i]? = some (o :: t) ∧ (∀ l ∈ ls, ∀ q t', l = q :: t' → lessO q o = false) ∧ Merged (ls.set i t) r
theorem Merged.nil {ls : List (List Ope)} (h : ∀ l ∈ ls, l = []) : Merged ls [] := h
theorem Merged.cons {ls : List (List Ope)} {i : Nat} {o : Ope} {t r : List Ope} (hi : ls[i]? = some (o :: t)) (hm : ∀ l ∈ ls, ∀ q t', l = q :: t' → lessO q o = false) (hr : Merged (ls.set i t) r) : Merged ls (o :: r) := ⟨i, t, hi, hm, hr⟩
theorem Merged.ind {motive : (ls : List (List Ope)) → (r : List Ope) → Merged ls r → Prop} (nil : ∀ {ls : List (List Ope)} (h : ∀ l ∈ ls, l = []), motive ls [] (Merged.nil h))
  (cons : ∀ {ls : List (List Ope)} {i : Nat} {o : Ope} {t r : List Ope} (hi : ls[i]? = some (o :: t)) (hm : ∀ l ∈ ls, ∀ q t', l = q :: t' → lessO q o = false) (hr : Merged (ls.set i t) r) (_ : motive (ls.set i t) r hr), motive ls (o :: r) (Merged.cons hi hm hr)) :
  {ls : List (List Ope)} → {r : List Ope} → (h : Merged ls r) → motive ls r h
 | _, [], h => nil h
 | _, _ :: _, ⟨_, _, hi, hm, hr⟩ => cons hi hm hr (Merged.ind nil cons hr)
theorem Merged.mem {ls : List (List Ope)} {r : List Ope} (h : Merged ls r) (x : Ope) : x ∈ r ↔ ∃ l ∈ ls, x ∈ l := by
 induction h using Merged.ind with
 | nil h =>
  constructor
  ·intro hx; cases hx
  ·rintro ⟨l, hl, hx⟩; rw [h l hl] at hx; cases hx
 | @cons ls i o t r hi hm _ ih =>
  have hil : i < ls.length := (List.getElem?_eq_some_iff.1 hi).1
  rw [List.mem_cons, ih]
  constructor
  ·rintro (rfl | ⟨l, hl, hx⟩)
   ·exact ⟨_, List.mem_of_getElem? hi, by simp⟩
   ·rcases List.mem_or_eq_of_mem_set hl with hl | rfl
    ·exact ⟨l, hl, hx⟩
    ·exact ⟨_, List.mem_of_getElem? hi, by simp [hx]⟩
  ·rintro ⟨l, hl, hx⟩
   obtain ⟨j, hj, rfl⟩ := List.getElem_of_mem hl
   by_cases hji : j = i
   ·subst hji
    have e := (List.getElem?_eq_some_iff.1 hi).2
    rw [e] at hx
    rcases List.mem_cons.1 hx with rfl | hx
    ·exact Or.inl rfl
    ·exact Or.inr ⟨t, List.mem_of_getElem? (i := j) (by rw [List.getElem?_set, if_pos rfl, if_pos hj]), hx⟩
   ·refine Or.inr ⟨ls[j], List.mem_of_getElem? (i := j) ?_, hx⟩
    rw [List.getElem?_set, if_neg (fun e => hji e.symm), List.getElem?_eq_getElem hj]
def above (known : List Nat) (log : List (List Ope)) : List (List Ope) := (List.range log.length).map fun j => (log.getD j []).drop (known.getD j 0)
theorem lessO_irrefl (a : Ope) : lessO a a = false := by
 rw [Bool.eq_false_iff]
 intro h
 have := (lessO_iff a a).1 h
 omega
theorem lessO_asymm {a b : Ope} (h : lessO a b = true) : lessO b a = false := by
 rw [Bool.eq_false_iff]
 intro k
 rw [lessO_iff] at *
 omega
theorem lessO_neg {a b c : Ope} (h : lessO a b = false) (k : lessO b c = false) : lessO a c = false := by
 rw [Bool.eq_false_iff] at *
 rw [Ne, lessO_iff] at *
 omega
section
variable {α : Type} (f : α → List Ope)
def lessA (a b : α) : Bool := match f a, f b with | x :: _, y :: _ => lessO x y | _, _ => false
def HeapOk : List α → Prop
 | [] => True
 | h :: t => ∀ l ∈ t, lessA f l h = false
variable {f}
theorem lessA_asymm {a b : α} (h : lessA f a b = true) : lessA f b a = false := by
 unfold lessA at *
 split at h
 ·rename_i h1 h2; rw [h1, h2]; exact lessO_asymm h
 ·cases h
theorem lessA_neg {a b c : α} (ha : f a ≠ []) (hb : f b ≠ []) (hc : f c ≠ []) (h : lessA f a b = false) (k : lessA f b c = false) : lessA f a c = false := by
 unfold lessA at *
 cases h1 : f a with
 | nil => exact absurd h1 ha
 | cons x t =>
  cases h2 : f b with
  | nil => exact absurd h2 hb
  | cons y u =>
   cases h3 : f c with
   | nil => exact absurd h3 hc
   | cons z v =>
    rw [h1, h2] at h
    rw [h2, h3] at k
    exact lessO_neg h k
theorem Merged.next {ls : List (List Ope)} {h : α} {t : List α} {o : Ope} {u : List Ope} (hp : ((h :: t).map f).Perm (ls.filter fun l => !l.isEmpty)) (hh : HeapOk f (h :: t)) (ho : f h = o :: u) :
  ∃ ls', (t.map f ++ (if u = [] then [] else [u])).Perm (ls'.filter fun l => !l.isEmpty) ∧ ∀ r, Merged ls' r → Merged ls (o :: r) := by
 have hm : o :: u ∈ ls := by
  have h1 : f h ∈ ls.filter fun l => !l.isEmpty := hp.mem_iff.1 (by simp)
  rw [ho] at h1
  exact (List.mem_filter.1 h1).1
 obtain ⟨A, B, rfl⟩ := List.append_of_mem hm
 have hset : (A ++ (o :: u) :: B).set A.length u = A ++ u :: B := by simp
 refine ⟨A ++ u :: B, ?_, fun r hr => ?_⟩
 ·rw [List.filter_append, List.filter_cons_of_pos (by simp)] at hp
  rw [List.map_cons, ho] at hp
  have h2 : (t.map f).Perm (A.filter (fun l => !l.isEmpty) ++ B.filter fun l => !l.isEmpty) := List.Perm.cons_inv (hp.trans List.perm_middle)
  rw [List.filter_append]
  by_cases hu : u = []
  ·rw [if_pos hu, List.append_nil, List.filter_cons_of_neg (by simp [hu])]
   exact h2
  ·rw [if_neg hu, List.filter_cons_of_pos (by simp [hu])]
   exact (List.perm_append_comm.trans (h2.cons u)).trans List.perm_middle.symm
 ·refine Merged.cons (i := A.length) (t := u) (by simp) (fun l hl q t' hq => ?_) (by rw [hset]; exact hr)
  have h1 : l ∈ (h :: t).map f := hp.mem_iff.2 (List.mem_filter.2 ⟨hl, by rw [hq]; rfl⟩)
  rw [List.map_cons] at h1
  rcases List.mem_cons.1 h1 with h1 | h1
  ·rw [hq, ho] at h1
   cases h1
   exact lessO_irrefl _
  ·obtain ⟨x, hx, hfx⟩ := List.mem_map.1 h1
   have h2 := hh x hx
   unfold lessA at h2
   rw [hfx, hq, ho] at h2
   exact h2
theorem Merged.ended {ls : List (List Ope)} (hp : (([] : List α).map f).Perm (ls.filter fun l => !l.isEmpty)) : Merged ls [] := by
 refine Merged.nil (fun l hl => ?_)
 have h1 : ls.filter (fun l => !l.isEmpty) = [] := List.nil_perm.1 hp
 rw [List.filter_eq_nil_iff] at h1
 have := h1 l hl
 simpa using this
end
section
variable {α : Type} {r : α → α → Bool}
def sw (a : Nat → α) (i j : Nat) : Nat → α := fun k => if k = i then a j else if k = j then a i else a k
theorem sw_i (a : Nat → α) (i j : Nat) : sw a i j i = a j := by simp [sw]
theorem sw_j (a : Nat → α) (i j : Nat) : sw a i j j = a i := by
 unfold sw
 by_cases h : j = i
 ·subst h; simp
 ·simp [h]
theorem sw_o (a : Nat → α) (i j k : Nat) (h1 : k ≠ i) (h2 : k ≠ j) : sw a i j k = a k := by simp [sw, h1, h2]
def HeapF (r : α → α → Bool) (a : Nat → α) (n : Nat) : Prop := ∀ i, 0 < i → i < n → r (a i) (a ((i - 1) / 2)) = false
structure UpI (r : α → α → Bool) (a : Nat → α) (n j : Nat) : Prop where
 up : ∀ i, 0 < i → i < n → i ≠ j → r (a i) (a ((i - 1) / 2)) = false
 over : ∀ c, 0 < c → c < n → (c - 1) / 2 = j → 0 < j → r (a c) (a ((j - 1) / 2)) = false
structure DownI (r : α → α → Bool) (a : Nat → α) (n i : Nat) : Prop where
 up : ∀ c, 0 < c → c < n → (c - 1) / 2 ≠ i → r (a c) (a ((c - 1) / 2)) = false
 over : ∀ c, 0 < c → c < n → (c - 1) / 2 = i → 0 < i → r (a c) (a ((i - 1) / 2)) = false
def NegF (r : α → α → Bool) (a : Nat → α) (n : Nat) : Prop := ∀ i j k, i < n → j < n → k < n → r (a i) (a j) = false → r (a j) (a k) = false → r (a i) (a k) = false
theorem up_step (has : ∀ x y, r x y = true → r y x = false) {a : Nat → α} {n j : Nat} (hn : NegF r a n) (h : UpI r a n j) (h0 : 0 < j) (hj : j < n) (hl : r (a j) (a ((j - 1) / 2)) = true) : UpI r (sw a ((j - 1) / 2) j) n ((j - 1) / 2) := by
 obtain ⟨p, hp⟩ : ∃ p, (j - 1) / 2 = p := ⟨_, rfl⟩
 rw [hp] at hl ⊢
 have hpj : p < j := by omega
 refine ⟨fun i i0 hi hip => ?_, fun c c0 hc hcp p0 => ?_⟩
 ·by_cases hij : i = j
  ·subst hij
   rw [hp, sw_j, sw_i]
   exact has _ _ hl
  ·rw [sw_o a p j i hip hij]
   have A := h.up i i0 hi hij
   by_cases hq : (i - 1) / 2 = j
   ·rw [hq, sw_j]
    have := h.over i i0 hi hq h0
    rw [hp] at this; exact this
   ·by_cases hq2 : (i - 1) / 2 = p
    ·rw [hq2, sw_i]
     rw [hq2] at A
     exact hn i p j hi (by omega) hj A (has _ _ hl)
    ·rw [sw_o a p j _ hq2 hq]; exact A
 ·have hpp : (p - 1) / 2 < p := by omega
  rw [sw_o a p j ((p - 1) / 2) (by omega) (by omega)]
  have P := h.up p p0 (by omega) (by omega)
  by_cases hcj : c = j
  ·subst hcj
   rw [sw_j]; exact P
  ·rw [sw_o a p j c (by omega) hcj]
   have A := h.up c c0 hc hcj
   rw [hcp] at A
   exact hn c p _ hc (by omega) (by omega) A P
theorem up_end {a : Nat → α} {n j : Nat} (h : UpI r a n j) (he : j = 0 ∨ r (a j) (a ((j - 1) / 2)) = false) : HeapF r a n := by
 intro i i0 hi
 by_cases hij : i = j
 ·subst hij
  rcases he with he | he
  ·omega
  ·exact he
 ·exact h.up i i0 hi hij
theorem down_step (has : ∀ x y, r x y = true → r y x = false) {a : Nat → α} {n i j : Nat} (h : DownI r a n i) (h0 : 0 < j) (hj : j < n) (hp : (j - 1) / 2 = i) (hl : r (a j) (a i) = true) (hs : ∀ c, 0 < c → c < n → (c - 1) / 2 = i → r (a c) (a j) = false) : DownI r (sw a i j) n j := by
 have hij : i < j := by omega
 refine ⟨fun c c0 hc hq => ?_, fun c c0 hc hq _ => ?_⟩
 ·by_cases hcj : c = j
  ·subst hcj
   rw [hp, sw_j, sw_i]
   exact has _ _ hl
  ·by_cases hci : c = i
   ·subst hci
    rw [sw_i, sw_o a c j ((c - 1) / 2) (by omega) (by omega)]
    exact h.over j h0 hj hp c0
   ·rw [sw_o a i j c hci hcj]
    by_cases hq2 : (c - 1) / 2 = i
    ·rw [hq2, sw_i]
     exact hs c c0 hc hq2
    ·rw [sw_o a i j _ hq2 hq]
     exact h.up c c0 hc hq2
 ·rw [hp, sw_i, sw_o a i j c (by omega) (by omega)]
  have := h.up c c0 hc (by omega)
  rw [hq] at this; exact this
theorem down_end {a : Nat → α} {n i : Nat} (h : DownI r a n i) (he : ∀ c, 0 < c → c < n → (c - 1) / 2 = i → r (a c) (a i) = false) : HeapF r a n := by
 intro c c0 hc
 by_cases hq : (c - 1) / 2 = i
 ·rw [hq]; exact he c c0 hc hq
 ·exact h.up c c0 hc hq
theorem heap_top {a : Nat → α} {n : Nat} (hn : NegF r a n) (hr : ∀ x, r x x = false) (h : HeapF r a n) : ∀ i, i < n → r (a i) (a 0) = false := by
 intro i
 induction i using Nat.strongRecOn with
 | _ i ih =>
  intro hi
  by_cases h0 : i = 0
  ·subst h0; exact hr _
  ·have h1 := ih ((i - 1) / 2) (by omega) (by omega)
   exact hn i ((i - 1) / 2) 0 hi (by omega) (by omega) (h i (by omega) hi) h1
theorem heap_pushed {a b : Nat → α} {n : Nat} (h : HeapF r a n) (hab : ∀ i, i < n → b i = a i) : UpI r b (n + 1) n := by
 refine ⟨fun i i0 hi hin => ?_, fun c c0 hc hq _ => by omega⟩
 rw [hab i (by omega), hab _ (by omega)]
 exact h i i0 (by omega)
theorem heap_fixed {a b : Nat → α} {n : Nat} (h : HeapF r a n) (hab : ∀ i, 0 < i → i < n → b i = a i) : DownI r b n 0 := by
 refine ⟨fun c c0 hc hq => ?_, fun c c0 hc hq h0 => by omega⟩
 rw [hab c c0 hc, hab _ (by omega) (by omega)]
 exact h c c0 hc
end
def Heads (ls : List (List Ope)) : Prop := ∀ (j : Nat) (l : List Ope), ls[j]? = some l → ∀ o ∈ l, o.peer = j
theorem Heads.set {ls : List (List Ope)} (h : Heads ls) {i : Nat} {o : Ope} {t : List Ope} (hi : ls[i]? = some (o :: t)) : Heads (ls.set i t) := fun j l hl x hx => by
 rw [List.getElem?_set] at hl
 split at hl
 ·next e =>
  subst e
  split at hl
  ·cases hl
   exact h i _ hi x (List.mem_cons_of_mem _ hx)
  ·cases hl
 ·exact h j l hl x hx
theorem Merged.unique {ls : List (List Ope)} {a b : List Ope} (ha : Merged ls a) (h : Heads ls) (hb : Merged ls b) : a = b := by
 induction ha using Merged.ind generalizing b with
 | @nil ls h0 =>
  cases b with
  | nil => rfl
  | cons o r =>
   obtain ⟨i, t, hi, _, _⟩ := hb
   have := h0 _ (List.mem_of_getElem? hi)
   cases this
 | @cons ls i o t r hi hm hr ih =>
  cases b with
  | nil =>
   have := hb _ (List.mem_of_getElem? hi)
   cases this
  | cons o' r' =>
   obtain ⟨i', t', hi', hm', hr'⟩ := hb
   have h1 := hm _ (List.mem_of_getElem? hi') o' t' rfl
   have h2 := hm' _ (List.mem_of_getElem? hi) o t rfl
   have h3 : ¬ (o'.clock < o.clock ∨ (o'.clock = o.clock ∧ o'.peer < o.peer)) := fun e => by
    rw [(lessO_iff o' o).2 e] at h1; cases h1
   have h4 : ¬ (o.clock < o'.clock ∨ (o.clock = o'.clock ∧ o.peer < o'.peer)) := fun e => by
    rw [(lessO_iff o o').2 e] at h2; cases h2
   have p1 := h i _ hi o (by simp)
   have p2 := h i' _ hi' o' (by simp)
   have e : i = i' := by omega
   subst e
   rw [hi] at hi'
   cases hi'
   rw [ih (h.set hi) hr']
def total (ls : List (List Ope)) : Nat := (ls.map List.length).sum
theorem total_set (ls : List (List Ope)) (i : Nat) (o : Ope) (t : List Ope) (hi : ls[i]? = some (o :: t)) : total ls = total (ls.set i t) + 1 := by
 induction ls generalizing i with
 | nil => simp at hi
 | cons a r ih =>
  cases i with
  | zero =>
   simp at hi; subst hi
   simp [total]; omega
  | succ i =>
   have := ih i (by simpa using hi)
   simp only [total, List.set_cons_succ, List.map_cons, List.sum_cons] at this ⊢
   omega
theorem Merged.length {ls : List (List Ope)} {a : List Ope} (h : Merged ls a) : a.length = total ls := by
 induction h using Merged.ind with
 | @nil ls h =>
  have : ∀ ls : List (List Ope), (∀ l ∈ ls, l = []) → total ls = 0 := by
   intro ls
   induction ls with
   | nil => intro _; rfl
   | cons a r ih =>
    intro h
    have h1 := h a (by simp)
    have h2 := ih (fun l hl => h l (by simp [hl]))
    subst h1
    simpa [total] using h2
  rw [this ls h]; rfl
 | @cons ls i o t r hi hm hr ih => rw [total_set ls i o t hi, List.length_cons, ih]
theorem above_get (qs : List Nat) (log : List (List Ope)) (j : Nat) : (above qs log)[j]? = (log[j]?).map fun l => l.drop (qs.getD j 0) := by
 unfold above
 rw [List.getElem?_map]
 by_cases h : j < log.length
 ·rw [List.getElem?_range h, List.getElem?_eq_getElem h]
  simp [List.getD_eq_getElem?_getD, List.getElem?_eq_getElem h]
 ·rw [List.getElem?_eq_none (by simpa using h), List.getElem?_eq_none (by simpa using h)]; rfl
theorem Heads.above {log : List (List Ope)} (h : Heads log) (qs : List Nat) : Heads (above qs log) := fun j l hl o ho => by
 rw [above_get] at hl
 cases e : log[j]? with
 | none => rw [e] at hl; cases hl
 | some r =>
  rw [e] at hl
  simp only [Option.map_some, Option.some.injEq] at hl
  subst hl
  exact h j r e o (List.mem_of_mem_drop ho)
theorem total_above (qs : List Nat) (log : List (List Ope)) : total (above qs log) ≤ total log := by
 have key : ∀ (n : Nat) (a b : List (List Ope)), a.length = n → b.length = n → (∀ (j : Nat) (x y : List Ope), a[j]? = some x → b[j]? = some y → x.length ≤ y.length) → total a ≤ total b := by
  intro n
  induction n with
  | zero =>
   intro a b ha hb _
   rw [List.length_eq_zero_iff.1 ha, List.length_eq_zero_iff.1 hb]
   exact Nat.le_refl _
  | succ n ih =>
   intro a b ha hb h
   cases a with
   | nil => cases ha
   | cons x a =>
    cases b with
    | nil => cases hb
    | cons y b =>
     have h1 := h 0 x y rfl rfl
     have h2 := ih a b (by simpa using ha) (by simpa using hb) (fun j u v hu hv => h (j + 1) u v (by simpa using hu) (by simpa using hv))
     simp only [total, List.map_cons, List.sum_cons] at h2 ⊢
     omega
 refine key log.length _ _ (by simp [Go.Chorus.above]) rfl (fun j x y hx hy => ?_)
 rw [above_get, hy] at hx
 simp only [Option.map_some, Option.some.injEq] at hx
 subst hx
 rw [List.length_drop]; omega
def BestUpto (ns : List Nat) (log : List (List Ope)) (i : Nat) (best : Int) : Prop :=
 (best = -1 ∧ ∀ (j : Nat) (l : List Ope), j < i → log[j]? = some l → l.length ≤ ns.getD j 0) ∨
 ∃ (b : Nat) (l : List Ope) (o : Ope), best = b ∧ b < i ∧ log[b]? = some l ∧ l[ns.getD b 0]? = some o ∧ ∀ (j : Nat) (l' : List Ope) (q : Ope), j < i → log[j]? = some l' → l'[ns.getD j 0]? = some q → o.clock < q.clock ∨ (o.clock = q.clock ∧ b ≤ j)
theorem BestUpto.zero (ns : List Nat) (log : List (List Ope)) : BestUpto ns log 0 (-1) := Or.inl ⟨rfl, fun j _ hj => absurd hj (Nat.not_lt_zero _)⟩
theorem BestUpto.skip {ns : List Nat} {log : List (List Ope)} {i : Nat} {best : Int} (h : BestUpto ns log i best) {l : List Ope} (hl : log[i]? = some l) (hn : l.length ≤ ns.getD i 0) : BestUpto ns log (i + 1) best := by
 rcases h with ⟨h1, h2⟩ | ⟨b, r, o, h1, h2, h3, h4, h5⟩
 ·refine Or.inl ⟨h1, fun j l' hj hl' => ?_⟩
  by_cases e : j = i
  ·subst e; rw [hl] at hl'; cases hl'; exact hn
  ·exact h2 j l' (by omega) hl'
 ·refine Or.inr ⟨b, r, o, h1, by omega, h3, h4, fun j l' q hj hl' hq => ?_⟩
  by_cases e : j = i
  ·subst e
   rw [hl] at hl'; cases hl'
   have := (List.getElem?_eq_some_iff.1 hq).1
   omega
  ·exact h5 j l' q (by omega) hl' hq
theorem BestUpto.first {ns : List Nat} {log : List (List Ope)} {i : Nat} (h : BestUpto ns log i (-1)) {l : List Ope} {o : Ope} (hl : log[i]? = some l) (ho : l[ns.getD i 0]? = some o) : BestUpto ns log (i + 1) i := by
 rcases h with ⟨h1, h2⟩ | ⟨b, r, o, h1, _⟩
 ·refine Or.inr ⟨i, l, o, rfl, by omega, hl, ho, fun j l' q hj hl' hq => ?_⟩
  by_cases e : j = i
  ·subst e
   rw [hl] at hl'; cases hl'
   rw [ho] at hq; cases hq
   exact Or.inr ⟨rfl, Nat.le_refl _⟩
  ·have := h2 j l' (by omega) hl'
   have := (List.getElem?_eq_some_iff.1 hq).1
   omega
 ·omega
theorem BestUpto.less {ns : List Nat} {log : List (List Ope)} {i b : Nat} (h : BestUpto ns log i b) {l lb : List Ope} {o ob : Ope} (hl : log[i]? = some l) (ho : l[ns.getD i 0]? = some o) (hlb : log[b]? = some lb) (hob : lb[ns.getD b 0]? = some ob) (hc : o.clock < ob.clock) : BestUpto ns log (i + 1) i := by
 rcases h with ⟨h1, _⟩ | ⟨b', r, o', h1, h2, h3, h4, h5⟩
 ·omega
 ·have e : b = b' := by omega
  subst e
  rw [hlb] at h3; cases h3
  rw [hob] at h4; cases h4
  refine Or.inr ⟨i, l, o, rfl, by omega, hl, ho, fun j l' q hj hl' hq => ?_⟩
  by_cases e : j = i
  ·subst e
   rw [hl] at hl'; cases hl'
   rw [ho] at hq; cases hq
   exact Or.inr ⟨rfl, Nat.le_refl _⟩
  ·rcases h5 j l' q (by omega) hl' hq with h6 | h6
   ·exact Or.inl (by omega)
   ·exact Or.inl (by omega)
theorem BestUpto.more {ns : List Nat} {log : List (List Ope)} {i b : Nat} (h : BestUpto ns log i b) {l lb : List Ope} {o ob : Ope} (hl : log[i]? = some l) (ho : l[ns.getD i 0]? = some o) (hlb : log[b]? = some lb) (hob : lb[ns.getD b 0]? = some ob) (hc : ¬ o.clock < ob.clock) : BestUpto ns log (i + 1) b := by
 rcases h with ⟨h1, _⟩ | ⟨b', r, o', h1, h2, h3, h4, h5⟩
 ·omega
 ·have e : b = b' := by omega
  subst e
  rw [hlb] at h3; cases h3
  rw [hob] at h4; cases h4
  refine Or.inr ⟨b, lb, ob, rfl, by omega, hlb, hob, fun j l' q hj hl' hq => ?_⟩
  by_cases e : j = i
  ·subst e
   rw [hl] at hl'; cases hl'
   rw [ho] at hq; cases hq
   by_cases e2 : ob.clock = o.clock
   ·exact Or.inr ⟨e2, by omega⟩
   ·exact Or.inl (by omega)
  ·exact h5 j l' q (by omega) hl' hq
theorem BestUpto.ended {ns : List Nat} {log : List (List Ope)} (h : BestUpto ns log log.length (-1)) : Merged (above ns log) [] := by
 rcases h with ⟨_, h2⟩ | ⟨b, r, o, h1, _⟩
 ·intro l hl
  obtain ⟨j, hj⟩ := List.getElem?_of_mem hl
  rw [above_get] at hj
  cases e : log[j]? with
  | none => rw [e] at hj; cases hj
  | some r =>
   rw [e] at hj
   simp only [Option.map_some, Option.some.injEq] at hj
   subst hj
   have hjl := (List.getElem?_eq_some_iff.1 e).1
   rw [List.drop_eq_nil_iff]
   exact h2 j r hjl e
 ·omega
theorem BestUpto.next {ns : List Nat} {log : List (List Ope)} {b : Nat} (hh : Heads log) (hn : ns.length = log.length) (h : BestUpto ns log log.length b) :
  ∃ (l : List Ope) (o : Ope), b < log.length ∧ log[b]? = some l ∧ l[ns.getD b 0]? = some o ∧ total (above ns log) = total (above (ns.set b (ns.getD b 0 + 1)) log) + 1 ∧ ∀ r, Merged (above (ns.set b (ns.getD b 0 + 1)) log) r → Merged (above ns log) (o :: r) := by
 rcases h with ⟨h1, _⟩ | ⟨b', l, o, h1, h2, h3, h4, h5⟩
 ·omega
 ·have e : b = b' := by omega
  subst e
  have hlt := (List.getElem?_eq_some_iff.1 h4).1
  have ho := (List.getElem?_eq_some_iff.1 h4).2
  have hi : (above ns log)[b]? = some (o :: l.drop (ns.getD b 0 + 1)) := by
   rw [above_get, h3, Option.map_some, List.drop_eq_getElem_cons hlt, ho]
  have hset : above (ns.set b (ns.getD b 0 + 1)) log = (above ns log).set b (l.drop (ns.getD b 0 + 1)) := by
   refine List.ext_getElem? (fun j => ?_)
   have hbl : b < (above ns log).length := (List.getElem?_eq_some_iff.1 hi).1
   rw [above_get, List.getElem?_set]
   by_cases e : b = j
   ·subst e
    rw [if_pos rfl, if_pos hbl, h3, Option.map_some]
    rw [List.getD_eq_getElem?_getD, List.getElem?_set, if_pos rfl, if_pos (by omega), Option.getD_some]
   ·rw [if_neg e, above_get]
    congr 1
    funext r
    rw [List.getD_eq_getElem?_getD, List.getElem?_set, if_neg e, ← List.getD_eq_getElem?_getD]
  refine ⟨l, o, h2, h3, h4, ?_, fun r hr => ⟨b, _, hi, ?_, ?_⟩⟩
  ·rw [hset]; exact total_set _ _ _ _ hi
  ·intro l' hl' q t' he
   subst he
   obtain ⟨j, hj⟩ := List.getElem?_of_mem hl'
   rw [above_get] at hj
   cases e : log[j]? with
   | none => rw [e] at hj; cases hj
   | some r' =>
    rw [e] at hj
    simp only [Option.map_some, Option.some.injEq] at hj
    have hq : r'[ns.getD j 0]? = some q := by
     have := congrArg (fun x => x[0]?) hj
     simpa using this
    have hjl := (List.getElem?_eq_some_iff.1 e).1
    have p1 := hh j r' e q (List.mem_of_getElem? hq)
    have p2 := hh b l h3 o (List.mem_of_getElem? h4)
    have h6 := h5 j r' q hjl e hq
    cases hl : lessO q o with
    | false => rfl
    | true =>
     have := (lessO_iff q o).1 hl
     omega
  ·rw [← hset]; exact hr
theorem least_head (ls : List (List Ope)) (h : ¬ ∀ l ∈ ls, l = []) : ∃ (i : Nat) (o : Ope) (t : List Ope), ls[i]? = some (o :: t) ∧ ∀ l ∈ ls, ∀ q t', l = q :: t' → lessO q o = false := by
 have self : ∀ o : Ope, lessO o o = false := fun o => by
  cases e : lessO o o with
  | false => rfl
  | true => have := (lessO_iff o o).1 e; omega
 induction ls with
 | nil => exact absurd (fun l hl => by cases hl) h
 | cons a r ih =>
  by_cases hr : ∀ l ∈ r, l = []
  ·cases a with
   | nil => exact absurd (fun l hl => by rcases List.mem_cons.1 hl with rfl | hl; rfl; exact hr l hl) h
   | cons o t =>
    refine ⟨0, o, t, rfl, fun l hl q t' he => ?_⟩
    rcases List.mem_cons.1 hl with rfl | hl
    ·cases he; exact self _
    ·rw [hr l hl] at he; cases he
  ·obtain ⟨i, o, t, h1, h2⟩ := ih hr
   cases a with
   | nil =>
    refine ⟨i + 1, o, t, by simpa using h1, fun l hl q t' he => ?_⟩
    rcases List.mem_cons.1 hl with rfl | hl
    ·cases he
    ·exact h2 l hl q t' he
   | cons x t2 =>
    cases hx : lessO x o with
    | true =>
     refine ⟨0, x, t2, rfl, fun l hl q t' he => ?_⟩
     rcases List.mem_cons.1 hl with rfl | hl
     ·cases he; exact self _
     ·have h3 := h2 l hl q t' he
      have h4 := (lessO_iff x o).1 hx
      cases e : lessO q x with
      | false => rfl
      | true =>
       have h5 := (lessO_iff q x).1 e
       have : lessO q o = true := (lessO_iff q o).2 (by omega)
       rw [this] at h3; cases h3
    | false =>
     refine ⟨i + 1, o, t, by simpa using h1, fun l hl q t' he => ?_⟩
     rcases List.mem_cons.1 hl with rfl | hl
     ·cases he; exact hx
     ·exact h2 l hl q t' he
theorem Merged.there (n : Nat) : ∀ ls : List (List Ope), total ls = n → ∃ r, Merged ls r := by
 induction n with
 | zero =>
  intro ls h
  by_cases h0 : ∀ l ∈ ls, l = []
  ·exact ⟨[], h0⟩
  ·obtain ⟨i, o, t, h1, _⟩ := least_head ls h0
   have := total_set ls i o t h1
   omega
 | succ n ih =>
  intro ls h
  by_cases h0 : ∀ l ∈ ls, l = []
  ·exact ⟨[], h0⟩
  ·obtain ⟨i, o, t, h1, h2⟩ := least_head ls h0
   have := total_set ls i o t h1
   obtain ⟨r, hr⟩ := ih (ls.set i t) (by omega)
   exact ⟨o :: r, i, t, h1, h2, hr⟩
def Ans (N : Nat) (ns : List Int) (log : List (List Ope)) (er : Int) (ops : List Ope) : Prop :=
 (ns.length = N ∧ (∀ n ∈ ns, 0 ≤ n) ∧ er = 0 ∧ Merged (above (ns.map Int.toNat) log) ops) ∨ (¬ (ns.length = N ∧ ∀ n ∈ ns, 0 ≤ n) ∧ er = 1 ∧ ops = [])
theorem Ans.there (N : Nat) (ns : List Int) (log : List (List Ope)) : ∃ er ops, Ans N ns log er ops := by
 by_cases h : ns.length = N ∧ ∀ n ∈ ns, 0 ≤ n
 ·obtain ⟨r, hr⟩ := Merged.there _ (above (ns.map Int.toNat) log) rfl
  exact ⟨0, r, Or.inl ⟨h.1, h.2, rfl, hr⟩⟩
 ·exact ⟨1, [], Or.inr ⟨h, rfl, rfl⟩⟩
end Go.Chorus
