import Derived.Test.YtgfafbanahiigaaV19a
/- Typed: what two peers write at one place, in plain words. -/
set_option linter.unusedVariables false
set_option linter.unusedSimpArgs false
namespace Go.Proofs.Ytgfafbanahiigaa
open Go.RowKit Go.Chorus

/-- What one peer types: n elements, their clocks from c + 1 on, their characters from ch on. -/
def chain (p c ch : Nat) : Nat → List El
  | 0 => []
  | n + 1 => chain p c ch n ++ [⟨c + n + 1, p, ((ch + n : Nat) : Int), false⟩]

theorem chain_nm {p c ch n : Nat} {e : El} (h : e ∈ chain p c ch n) : ∃ i, i < n ∧ nm e = (c + i + 1, p) ∧ e.dead = false := by
  induction n with
  | zero => cases h
  | succ n ih =>
    rcases List.mem_append.1 h with h | h
    · obtain ⟨i, h1, h2⟩ := ih h
      exact ⟨i, by omega, h2⟩
    · rw [List.mem_singleton.1 h]
      exact ⟨n, by omega, rfl, rfl⟩

theorem chain_add (p c ch a : Nat) : ∀ b, chain p c ch (a + b) = chain p c ch a ++ chain p (c + a) (ch + a) b := by
  intro b
  induction b with
  | zero => simp [chain]
  | succ b ih =>
    rw [show a + (b + 1) = (a + b) + 1 by omega]
    simp only [chain, ih, List.append_assoc]
    rw [show c + (a + b) + 1 = c + a + b + 1 by omega, show ch + (a + b) = ch + a + b by omega]

theorem chain_length (p c ch n : Nat) : (chain p c ch n).length = n := by
  induction n with
  | zero => rfl
  | succ n ih => simp [chain, ih]

theorem tlive_append (a b : List El) : liveChars (a ++ b) = liveChars a ++ liveChars b := by
  induction a with
  | nil => rfl
  | cons e r ih =>
    simp only [List.cons_append, liveChars]
    split
    · exact ih
    · rw [ih]; rfl

/-- The characters from ch on. -/
def tchars (ch n : Nat) : List Int := (List.range n).map fun i => ((ch + i : Nat) : Int)

theorem tchars_succ (ch n : Nat) : tchars ch (n + 1) = tchars ch n ++ [((ch + n : Nat) : Int)] := by simp [tchars, List.range_succ]
theorem tchars_length (ch n : Nat) : (tchars ch n).length = n := by simp [tchars]

theorem tlive_chain (p c ch n : Nat) : liveChars (chain p c ch n) = tchars ch n := by
  induction n with
  | zero => rfl
  | succ n ih => rw [chain, tlive_append, ih, tchars_succ]; rfl

theorem liveAt_last (a : List El) (e : El) (h : ∀ x ∈ a, x.dead = false) (he : e.dead = false) : liveAt (a ++ [e]) (a.length : Int) = some e := by
  induction a with
  | nil => simp [liveAt, he]
  | cons x r ih =>
    simp only [List.cons_append, List.length_cons, liveAt]
    rw [h x (by simp)]
    have h1 : ¬ ((r.length + 1 : Nat) : Int) = 0 := by omega
    have h2 : ((r.length + 1 : Nat) : Int) - 1 = (r.length : Int) := by omega
    rw [if_neg h1, h2]
    exact ih (fun y hy => h y (by simp [hy]))

/-- Right behind A: where what follows is not greater. -/
theorem ins_mid (A T : List El) (c p bc bp : Nat) (ch : Int) (hnew : ∀ e ∈ A ++ T, nm e ≠ (c, p))
    (hA : (A = [] ∧ bc = 0 ∧ bp = 0) ∨ (∃ A' e, A = A' ++ [e] ∧ nm e = (bc, bp) ∧ (∀ x ∈ A', nm x ≠ (bc, bp)) ∧ ¬ (bc = 0 ∧ bp = 0)))
    (hT : ∀ t r, T = t :: r → isGreater t c p = false) : insertEl (A ++ T) c p bc bp ch = A ++ ⟨c, p, ch, false⟩ :: T := by
  have hf : findFrom c p (A ++ T) 0 = -1 := find_absent c p (A ++ T) 0 hnew
  have hpl : placeOk bc bp (A ++ T) = true ∧ (placeOf bc bp (A ++ T)).toNat = A.length := by
    unfold placeOk placeOf
    rcases hA with ⟨rfl, rfl, rfl⟩ | ⟨A', e, rfl, hn, hx, hz⟩
    · exact ⟨by simp, by simp⟩
    · have hz' : ¬ ((bc : Int) = 0 ∧ (bp : Int) = 0) := by omega
      rw [if_neg hz', if_neg hz', List.append_assoc]
      have hfe := find_there bc bp A' T e 0 hx hn
      rw [List.singleton_append, hfe]
      refine ⟨by simp, ?_⟩
      simp
  unfold insertEl
  rw [if_neg (by rw [hf, hpl.1]; simp)]
  simp only [hpl.2]
  have hb : behindGreater c p ((A ++ T).drop A.length) A.length = A.length := by
    rw [List.drop_left]
    cases T with
    | nil => rfl
    | cons t r => unfold behindGreater; rw [hT t r rfl]; rfl
  rw [hb, List.take_left, List.drop_left]

def opA (j : Nat) : Ope := ⟨true, 0, j + 1, j + 1, [j, 0, 0], j, 0, 19968 + j⟩
def opB (L n i : Nat) : Ope := ⟨true, 1, i + 1, L + i + 1, [L, i, 0], L + i, if i = 0 then 0 else 1, 19968 + L + n + i⟩

def ops0 (j : Nat) : List Ope := (List.range j).map opA
def ops1 (L n i : Nat) : List Ope := (List.range i).map (opB L n)

theorem ops0_succ (j : Nat) : ops0 (j + 1) = ops0 j ++ [opA j] := by simp [ops0, List.range_succ]
theorem ops1_succ (L n i : Nat) : ops1 L n (i + 1) = ops1 L n i ++ [opB L n i] := by simp [ops1, List.range_succ]

/-- The one that writes first. -/
def s0 (j : Nat) : Pr := ⟨0, j, [j, 0, 0], chain 0 0 19968 j, [], [ops0 j, [], []]⟩
/-- The other one. -/
def s1 (L n i : Nat) : Pr := ⟨1, L + i, [L, i, 0], chain 0 0 19968 L ++ chain 1 L (19968 + L + n) i, [], [ops0 L, ops1 L n i, []]⟩
/-- The first one, that receives what the other one wrote. -/
def t0 (L n i : Nat) : Pr := ⟨0, max (L + n) (L + i), [L + n, i, 0], chain 0 0 19968 L ++ chain 1 L (19968 + L + n) i ++ chain 0 L (19968 + L) n, [], [ops0 (L + n), ops1 L n i, []]⟩

theorem t0_zero (L n : Nat) : t0 L n 0 = s0 (L + n) := by
  unfold t0 s0
  have h1 : max (L + n) (L + 0) = L + n := by omega
  have h2 : chain 0 0 19968 L ++ chain 1 L (19968 + L + n) 0 ++ chain 0 L (19968 + L) n = chain 0 0 19968 (L + n) := by
    rw [chain_add]; simp [chain]
  rw [h1, h2]; rfl

theorem deliver_still (s : Pr) (o : Ope) (h : s.held = []) : s.deliverF o = (s.apply o, 1) := by
  unfold Pr.deliverF
  rw [h]; rfl

theorem s0_write (j : Nat) : ((s0 j).deliverF (opA j)).1 = s0 (j + 1) := by
  rw [deliver_still _ _ rfl]
  show ({ s0 j with clock := max j (j + 1), known := [j + 1, 0, 0], row := insertEl (chain 0 0 19968 j) (j + 1) 0 j 0 ((19968 + j : Nat) : Int), log := [ops0 j ++ [opA j], [], []] } : Pr) = s0 (j + 1)
  have hr : insertEl (chain 0 0 19968 j) (j + 1) 0 j 0 ((19968 + j : Nat) : Int) = chain 0 0 19968 (j + 1) := by
    have := ins_mid (chain 0 0 19968 j) [] (j + 1) 0 j 0 ((19968 + j : Nat) : Int) (fun e he => ?_) ?_ (fun t r h => by cases h)
    · rw [List.append_nil] at this
      rw [this]
      simp [chain]
    · rw [List.append_nil] at he
      obtain ⟨i, h1, h2, _⟩ := chain_nm he
      rw [h2]; simp; omega
    · cases j with
      | zero => exact Or.inl ⟨rfl, rfl, rfl⟩
      | succ j =>
        refine Or.inr ⟨chain 0 0 19968 j, _, rfl, by simp [nm], fun x hx => ?_, by omega⟩
        obtain ⟨i, h1, h2, _⟩ := chain_nm hx
        rw [h2]; simp; omega
  rw [hr, ← ops0_succ, show max j (j + 1) = j + 1 by omega]
  rfl

theorem chain_ends (L i : Nat) (ch : Nat) : (chain 0 0 19968 L ++ chain 1 L ch i = [] ∧ L + i = 0 ∧ (if i = 0 then 0 else 1) = 0) ∨ (∃ A' e, chain 0 0 19968 L ++ chain 1 L ch i = A' ++ [e] ∧ nm e = (L + i, if i = 0 then 0 else 1) ∧ (∀ x ∈ A', nm x ≠ (L + i, if i = 0 then 0 else 1)) ∧ ¬ (L + i = 0 ∧ (if i = 0 then 0 else 1) = 0)) := by
  cases i with
  | zero =>
    cases L with
    | zero => exact Or.inl ⟨rfl, rfl, rfl⟩
    | succ L =>
      refine Or.inr ⟨chain 0 0 19968 L, ⟨0 + L + 1, 0, ((19968 + L : Nat) : Int), false⟩, by simp [chain], by simp [nm], fun x hx => ?_, by simp⟩
      obtain ⟨i, h1, h2, _⟩ := chain_nm hx
      rw [h2]; simp; omega
  | succ i =>
    refine Or.inr ⟨chain 0 0 19968 L ++ chain 1 L ch i, ⟨L + i + 1, 1, ((ch + i : Nat) : Int), false⟩, by simp [chain], by simp [nm]; omega, fun x hx => ?_, by simp⟩
    rcases List.mem_append.1 hx with hx | hx
    · obtain ⟨i, h1, h2, _⟩ := chain_nm hx
      rw [h2]; simp
    · obtain ⟨i, h1, h2, _⟩ := chain_nm hx
      rw [h2]; simp; omega

theorem chain_new (L i ch : Nat) : ∀ e ∈ chain 0 0 19968 L ++ chain 1 L ch i, nm e ≠ (L + i + 1, 1) := by
  intro e he
  rcases List.mem_append.1 he with he | he
  · obtain ⟨i, h1, h2, _⟩ := chain_nm he
    rw [h2]; simp
  · obtain ⟨i, h1, h2, _⟩ := chain_nm he
    rw [h2]; simp; omega

theorem s1_write (L n i : Nat) : ((s1 L n i).deliverF (opB L n i)).1 = s1 L n (i + 1) := by
  rw [deliver_still _ _ rfl]
  show ({ s1 L n i with clock := max (L + i) (L + i + 1), known := [L, i + 1, 0], row := insertEl (chain 0 0 19968 L ++ chain 1 L (19968 + L + n) i) (L + i + 1) 1 (L + i) (if i = 0 then 0 else 1) ((19968 + L + n + i : Nat) : Int), log := [ops0 L, ops1 L n i ++ [opB L n i], []] } : Pr) = s1 L n (i + 1)
  have hr : insertEl (chain 0 0 19968 L ++ chain 1 L (19968 + L + n) i) (L + i + 1) 1 (L + i) (if i = 0 then 0 else 1) ((19968 + L + n + i : Nat) : Int) = chain 0 0 19968 L ++ chain 1 L (19968 + L + n) (i + 1) := by
    have := ins_mid (chain 0 0 19968 L ++ chain 1 L (19968 + L + n) i) [] (L + i + 1) 1 (L + i) (if i = 0 then 0 else 1) ((19968 + L + n + i : Nat) : Int) (by rw [List.append_nil]; exact chain_new L i _) (chain_ends L i _) (fun t r h => by cases h)
    rw [List.append_nil] at this
    rw [this]
    simp [chain]
  rw [hr, ← ops1_succ, show max (L + i) (L + i + 1) = L + (i + 1) by omega]
  rfl

/-- What the other one wrote stands ahead. -/
theorem t0_apply (L n i : Nat) (hn : 0 < n) : (t0 L n i).apply (opB L n i) = t0 L n (i + 1) := by
  show ({ t0 L n i with clock := max (max (L + n) (L + i)) (L + i + 1), known := [L + n, i + 1, 0], row := insertEl (chain 0 0 19968 L ++ chain 1 L (19968 + L + n) i ++ chain 0 L (19968 + L) n) (L + i + 1) 1 (L + i) (if i = 0 then 0 else 1) ((19968 + L + n + i : Nat) : Int), log := [ops0 (L + n), ops1 L n i ++ [opB L n i], []] } : Pr) = t0 L n (i + 1)
  have hr : insertEl (chain 0 0 19968 L ++ chain 1 L (19968 + L + n) i ++ chain 0 L (19968 + L) n) (L + i + 1) 1 (L + i) (if i = 0 then 0 else 1) ((19968 + L + n + i : Nat) : Int) = chain 0 0 19968 L ++ chain 1 L (19968 + L + n) (i + 1) ++ chain 0 L (19968 + L) n := by
    rw [ins_mid (chain 0 0 19968 L ++ chain 1 L (19968 + L + n) i) (chain 0 L (19968 + L) n) (L + i + 1) 1 (L + i) (if i = 0 then 0 else 1) ((19968 + L + n + i : Nat) : Int) (fun e he => ?_) (chain_ends L i _) (fun t r h => ?_)]
    · simp [chain]
    · rcases List.mem_append.1 he with he | he
      · exact chain_new L i _ e he
      · obtain ⟨i, h1, h2, _⟩ := chain_nm he
        rw [h2]; simp
    · obtain ⟨n', rfl⟩ : ∃ n', n = 1 + n' := ⟨n - 1, by omega⟩
      rw [chain_add] at h
      simp only [chain, List.nil_append, List.cons_append, List.cons.injEq] at h
      obtain ⟨rfl, _⟩ := h
      rw [Bool.eq_false_iff]
      intro hg
      have := (isGreater_iff _ _ _).1 hg
      unfold nlt nm at this
      simp at this
      omega
  rw [hr, ← ops1_succ, show max (max (L + n) (L + i)) (L + i + 1) = max (L + n) (L + (i + 1)) by omega]
  rfl

theorem t0_known (L n i : Nat) (hi : i ≤ L + n) : ∀ j, j < L + n → (t0 L n i).oneF (opA j) = (t0 L n i, 0, 0) := by
  intro j hj
  unfold Pr.oneF
  have h1 : ¬ ((opA j).peer = (t0 L n i).me ∧ (t0 L n i).k (t0 L n i).me < (opA j).num) := fun h => by
    have h2 : L + n < j + 1 := h.2
    omega
  have h2 : (opA j).num ≤ (t0 L n i).k (opA j).peer := by show j + 1 ≤ L + n; omega
  rw [if_neg h1, if_pos (Or.inl h2)]

theorem can_three (s : Pr) (o : Ope) (a b c : Nat) (hk : s.known = [a, b, c]) (hn : o.num = s.k o.peer + 1) (h0 : sn o 0 ≤ a) (h1 : sn o 1 ≤ b) (h2 : sn o 2 ≤ c) : s.can o = true := by
  rw [can_iff]
  refine ⟨hn, fun j hj => ?_⟩
  rw [hk] at hj
  unfold Pr.k
  rw [hk]
  match j with
  | 0 => exact h0
  | 1 => exact h1
  | 2 => exact h2
  | j + 3 => simp at hj; omega

theorem t0_hears (L n i : Nat) (hn : 0 < n) : (t0 L n i).oneF (opB L n i) = (t0 L n (i + 1), 1, 0) := by
  unfold Pr.oneF
  have h1 : ¬ ((opB L n i).peer = (t0 L n i).me ∧ (t0 L n i).k (t0 L n i).me < (opB L n i).num) := fun h => absurd (show (1 : Nat) = 0 from h.1) (by decide)
  have h2 : ¬ ((opB L n i).num ≤ (t0 L n i).k (opB L n i).peer ∨ ∃ q ∈ (t0 L n i).held, q.peer = (opB L n i).peer ∧ q.num = (opB L n i).num) := by
    rintro (h | ⟨q, hq, _⟩)
    · have h2 : i + 1 ≤ i := h
      omega
    · cases hq
  have h3 : (t0 L n i).can (opB L n i) = true := can_three _ _ (L + n) i 0 rfl rfl (by show L ≤ L + n; omega) (Nat.le_refl _) (Nat.le_refl _)
  rw [if_neg h1, if_neg h2, if_pos h3, deliver_still _ _ rfl, t0_apply L n i hn]

theorem s1_hears (L n : Nat) : (s1 L n 0).oneF (opA L) = (s1 (L + 1) n 0, 1, 0) := by
  unfold Pr.oneF
  have h1 : ¬ ((opA L).peer = (s1 L n 0).me ∧ (s1 L n 0).k (s1 L n 0).me < (opA L).num) := fun h => absurd (show (0 : Nat) = 1 from h.1) (by decide)
  have h2 : ¬ ((opA L).num ≤ (s1 L n 0).k (opA L).peer ∨ ∃ q ∈ (s1 L n 0).held, q.peer = (opA L).peer ∧ q.num = (opA L).num) := by
    rintro (h | ⟨q, hq, _⟩)
    · have h2 : L + 1 ≤ L := h
      omega
    · cases hq
  have h3 : (s1 L n 0).can (opA L) = true := can_three _ _ L 0 0 rfl rfl (Nat.le_refl _) (Nat.le_refl _) (Nat.le_refl _)
  rw [if_neg h1, if_neg h2, if_pos h3, deliver_still _ _ rfl]
  have ha : (s1 L n 0).apply (opA L) = s1 (L + 1) n 0 := by
    have h5 := s0_write L
    rw [deliver_still _ _ rfl] at h5
    have h6 := congrArg Pr.row h5
    have h7 : insertEl (chain 0 0 19968 L) (L + 1) 0 L 0 ((19968 + L : Nat) : Int) = chain 0 0 19968 (L + 1) := h6
    show ({ s1 L n 0 with clock := max (L + 0) (L + 1), known := [L + 1, 0, 0], row := insertEl (chain 0 0 19968 L ++ []) (L + 1) 0 L 0 ((19968 + L : Nat) : Int), log := [ops0 L ++ [opA L], [], []] } : Pr) = s1 (L + 1) n 0
    rw [List.append_nil, h7, ← ops0_succ, show max (L + 0) (L + 1) = L + 1 + 0 by omega]
    show _ = (⟨1, L + 1 + 0, [L + 1, 0, 0], chain 0 0 19968 (L + 1) ++ [], [], [ops0 (L + 1), [], []]⟩ : Pr)
    rw [List.append_nil]
    rfl
  rw [ha]

theorem behind_last (es : List El) (tc tp : Nat) (hd : ∀ x ∈ es, x.dead = false) (h : (es = [] ∧ tc = 0 ∧ tp = 0) ∨ ∃ A' e, es = A' ++ [e] ∧ nm e = (tc, tp)) : behindOf es (es.length : Int) = some (tc, tp) := by
  unfold behindOf
  rcases h with ⟨rfl, rfl, rfl⟩ | ⟨A', e, rfl, hn⟩
  · simp
  · have h1 : ¬ (((A' ++ [e]).length : Nat) : Int) = 0 := by simp; omega
    have h2 : ¬ (((A' ++ [e]).length : Nat) : Int) < 0 := by omega
    have h3 : (((A' ++ [e]).length : Nat) : Int) - 1 = (A'.length : Int) := by simp
    rw [if_neg h1, if_neg h2, h3, liveAt_last A' e (fun x hx => hd x (by simp [hx])) (hd e (by simp))]
    unfold nm at hn
    simp only [Option.map_some, hn]

theorem s0_behind (j : Nat) : behindOf (s0 j).row (j : Int) = some (j, 0) := by
  have := behind_last (chain 0 0 19968 j) j 0 (fun x hx => by obtain ⟨_, _, _, h⟩ := chain_nm hx; exact h) (by
    cases j with
    | zero => exact Or.inl ⟨rfl, rfl, rfl⟩
    | succ j => exact Or.inr ⟨_, _, rfl, by simp [nm]⟩)
  rw [chain_length] at this
  exact this

theorem s1_behind (L n i : Nat) : behindOf (s1 L n i).row ((L + i : Nat) : Int) = some (L + i, if i = 0 then 0 else 1) := by
  have := behind_last (chain 0 0 19968 L ++ chain 1 L (19968 + L + n) i) (L + i) (if i = 0 then 0 else 1) (fun x hx => by
    rcases List.mem_append.1 hx with hx | hx
    · obtain ⟨_, _, _, h⟩ := chain_nm hx; exact h
    · obtain ⟨_, _, _, h⟩ := chain_nm hx; exact h) (by
    rcases chain_ends L i (19968 + L + n) with h | ⟨A', e, h1, h2, _⟩
    · exact Or.inl h
    · exact Or.inr ⟨A', e, h1, h2⟩)
  rw [List.length_append, chain_length, chain_length] at this
  exact this

theorem s0_live (j : Nat) : liveChars (s0 j).row = tchars 19968 j := tlive_chain _ _ _ _
theorem s1_live (L n i : Nat) : liveChars (s1 L n i).row = tchars 19968 L ++ tchars (19968 + L + n) i := by
  show liveChars (_ ++ _) = _
  rw [tlive_append, tlive_chain, tlive_chain]
theorem t0_live (L n i : Nat) : liveChars (t0 L n i).row = tchars 19968 L ++ tchars (19968 + L + n) i ++ tchars (19968 + L) n := by
  show liveChars (_ ++ _ ++ _) = _
  rw [tlive_append, tlive_append, tlive_chain, tlive_chain, tlive_chain]

theorem hist_tail {B C : List Ope} (h : HistOk (B ++ C)) : HistOk C := by
  induction B with
  | nil => exact h
  | cons o B ih =>
    match h with
    | ⟨h, num, own, made, whole, clock, pos, name⟩ => exact ih h

/-- Who knows all that there is knows as much as there is. -/
theorem know_all {N : Nat} {H : List Ope} {s : Pr} (h : HistOk H) (p : PeerOk N H s) (hall : ∀ o ∈ H, o.num ≤ s.k o.peer) : s.k = Go.Chorus.cnt H := by
  funext j
  refine Nat.le_antisymm (p.1.view.le j) ?_
  by_cases h0 : Go.Chorus.cnt H j = 0
  · omega
  · obtain ⟨q, hq, hp, hn⟩ := h.there j (Go.Chorus.cnt H j) (by omega) (Nat.le_refl _)
    have := hall q hq
    rw [hp, hn] at this
    exact this

theorem same_row {N : Nat} {H : List Ope} {s t : Pr} (h : HistOk H) (p : PeerOk N H s) (q : PeerOk N H t) (hs : ∀ o ∈ H, o.num ≤ s.k o.peer) (ht : ∀ o ∈ H, o.num ≤ t.k o.peer) : s.row = t.row := by
  have v := p.1.view
  have u := q.1.view
  rw [know_all h p hs] at v
  rw [know_all h q ht] at u
  exact v.alike h u

/-- What comes in the order in which it was made is taken as it comes. -/
theorem in_turn {N : Nat} {A B : List Ope} {o : Ope} {s : Pr} (h : HistOk (B ++ o :: A)) (hg : InGroup N (B ++ o :: A)) (p : PeerOk N (B ++ o :: A) s) (hr : InRow s.held) (hA : ∀ q ∈ A, q.num ≤ s.k q.peer) :
    (s.oneF o).2.2 = 0 ∧ o.num ≤ (s.oneF o).1.k o.peer ∧ ∀ j, s.k j ≤ (s.oneF o).1.k j := by
  obtain ⟨q, _⟩ := oneF_ok h hg p hr (o := o) (by simp)
  have hA2 : ∀ j, Go.Chorus.cnt A j ≤ s.k j := by
    intro j
    by_cases h0 : Go.Chorus.cnt A j = 0
    · omega
    · have hh := hist_tail h
      obtain ⟨hh, st⟩ := hh
      · obtain ⟨x, hx, hp, hn⟩ := hh.there j (Go.Chorus.cnt A j) (by omega) (Nat.le_refl _)
        have := hA x hx
        rw [hp, hn] at this
        exact this
  have hh := hist_tail h
  obtain ⟨hh, num, own, made, whole, clock, pos, name⟩ := hh
  · by_cases hold : o.num ≤ s.k o.peer
    · obtain ⟨h1, h2, h3⟩ := q.old hold
      exact ⟨h2, by rw [h3]; exact hold, q.grow⟩
    · have hcan : s.can o = true := (can_iff s o).2 ⟨by have := hA2 o.peer; omega, fun j _ => Nat.le_trans (made j) (hA2 j)⟩
      have hc := q.came hcan
      refine ⟨?_, hc, q.grow⟩
      rcases q.which with h1 | ⟨_, _, h1⟩
      · exact h1
      · rw [h1] at hc; exact absurd hc hold

/-- The two that write; the third one does nothing. -/
def tyS (a b : Pr) : Nat → Pr := fun k => if k = 0 then a else if k = 1 then b else stNew k

theorem tyS_new (n : Nat) : stNew = tyS (s0 0) (s1 0 n 0) := by
  funext k
  unfold tyS
  split
  · rename_i h; subst h; rfl
  · split
    · rename_i h; subst h; rfl
    · rfl

theorem tyS_0 (a b a' : Pr) : upd (tyS a b) 0 a' = tyS a' b := by
  funext k
  unfold upd tyS
  split <;> rfl

theorem tyS_1 (a b b' : Pr) : upd (tyS a b) 1 b' = tyS a b' := by
  funext k
  unfold upd tyS
  by_cases h : k = 1
  · subst h; rfl
  · rw [if_neg h]; split
    · rfl
    · rfl

/-- All that the two wrote, in order. -/
def opsT (L n m : Nat) : List Ope := ops0 (L + n) ++ ops1 L n m

theorem opsT_at (L n m i : Nat) (hi : i < L + n + m) : (opsT L n m)[i]? = some (if i < L + n then opA i else opB L n (i - (L + n))) := by
  unfold opsT
  have h0 : (ops0 (L + n)).length = L + n := by simp [ops0]
  by_cases h : i < L + n
  · rw [if_pos h, List.getElem?_append_left (by omega)]
    simp [ops0, h]
  · rw [if_neg h, List.getElem?_append_right (by omega), h0]
    have h2 : i - (L + n) < m := by omega
    simp [ops1, h2]

/-- The first one receives the i-th of all. -/
theorem t0_step (L n m i : Nat) (hn : 0 < n) (hi : i < L + n + m) (o : Ope) (ho : (opsT L n m)[i]? = some o) : ∃ d, (t0 L n (i - (L + n))).oneF o = (t0 L n (i + 1 - (L + n)), d, 0) := by
  rw [opsT_at L n m i hi] at ho
  by_cases h : i < L + n
  · rw [if_pos h] at ho
    cases ho
    have e1 : i - (L + n) = 0 := by omega
    have e2 : i + 1 - (L + n) = 0 := by omega
    rw [e1, e2]
    exact ⟨0, t0_known L n 0 (by omega) i h⟩
  · rw [if_neg h] at ho
    cases ho
    have e2 : i + 1 - (L + n) = i - (L + n) + 1 := by omega
    rw [e2]
    exact ⟨1, t0_hears L n _ hn⟩

theorem t0_all (L n m : Nat) : ∀ o ∈ opsT L n m, o.num ≤ (t0 L n m).k o.peer := by
  intro o ho
  rcases List.mem_append.1 ho with h | h
  · obtain ⟨j, hj, rfl⟩ := List.mem_map.1 h
    have := List.mem_range.1 hj
    show j + 1 ≤ L + n
    omega
  · obtain ⟨j, hj, rfl⟩ := List.mem_map.1 h
    have := List.mem_range.1 hj
    show j + 1 ≤ m
    omega

/-- What the statement asks of the first one's text. -/
theorem t0_text (L n m : Nat) : textBytes (t0 L n m).row = (tchars 19968 L).flatMap Lib.encodeRune ++ (tchars (19968 + L + n) m).flatMap Lib.encodeRune ++ (tchars (19968 + L) n).flatMap Lib.encodeRune := by
  rw [text_chars, t0_live, List.flatMap_append, List.flatMap_append]

theorem s0_targ (j : Nat) : (true = true ∧ ((j, 0) : Nm) = (0, 0)) ∨ ∃ e ∈ (s0 j).row, nm e = (j, 0) := by
  cases j with
  | zero => exact Or.inl ⟨rfl, rfl⟩
  | succ j => exact Or.inr ⟨_, List.mem_append.2 (Or.inr (List.mem_singleton.2 rfl)), by simp [nm]⟩

theorem s1_targ (L n i : Nat) : (true = true ∧ ((L + i, if i = 0 then 0 else 1) : Nm) = (0, 0)) ∨ ∃ e ∈ (s1 L n i).row, nm e = (L + i, if i = 0 then 0 else 1) := by
  rcases chain_ends L i (19968 + L + n) with ⟨_, h1, h2⟩ | ⟨A', e, h1, h2, _⟩
  · exact Or.inl ⟨rfl, by rw [h1, h2]⟩
  · refine Or.inr ⟨e, ?_, h2⟩
    show e ∈ chain 0 0 19968 L ++ chain 1 L (19968 + L + n) i
    rw [h1]; simp

end Go.Proofs.Ytgfafbanahiigaa
