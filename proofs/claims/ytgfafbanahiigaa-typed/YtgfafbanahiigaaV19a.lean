import Derived.Test.YtgfafbanahiigaaV18
set_option linter.unusedVariables false
set_option linter.unusedSimpArgs false
namespace Go.Proofs.Ytgfafbanahiigaa
open Go.RowKit Go.Chorus

/-- A group that keeps to the document, t steps on; count characters were inserted. -/
structure GOk (t : Nat) (H : List Ope) (ss : Nat → Pr) (count : Nat) : Prop where
  hist : HistOk H
  grp : InGroup 3 H
  right : ∀ o ∈ H, RightOp 3 o
  len : H.length ≤ t
  cnt : count ≤ t
  ok : ∀ k, k < 3 → PeerOk 3 H (ss k)
  inrow : ∀ k, k < 3 → InRow (ss k).held
  me : ∀ k, k < 3 → (ss k).me = k
  fit : ∀ k, k < 3 → Fit 3 (ss k)
  clk : ∀ k, k < 3 → (ss k).clock ≤ H.length
  oclk : ∀ o ∈ H, o.clock ≤ H.length
  size : ∀ k, k < 3 → psize (ss k) ≤ t
  chr : ∀ o ∈ H, o.ins = true → 19968 ≤ o.char ∧ o.char < 19968 + count
  dist : ∀ a ∈ H, ∀ b ∈ H, a.ins = true → b.ins = true → a.char = b.char → a = b
  num : (H.filter fun o => o.ins).length = count

theorem settleF_clock (C : Nat) : ∀ (f : Nat) (s : Pr), s.clock ≤ C → (∀ o ∈ s.held, o.clock ≤ C) → (settleF f s).1.clock ≤ C ∧ (settleF f s).1.me = s.me := by
  intro f
  induction f with
  | zero => intro s h _; exact ⟨h, rfl⟩
  | succ f ih =>
    intro s h ho
    unfold settleF
    cases hf : s.firstCan with
    | none => exact ⟨h, rfl⟩
    | some x =>
      obtain ⟨i, o⟩ := x
      obtain ⟨_, hi, hc⟩ := firstGo_mem s s.held 0 (i, o) hf
      simp only [Nat.sub_zero] at hi
      have h1 := ho o (List.mem_of_getElem? hi)
      exact ih _ (by show max s.clock o.clock ≤ C; omega) (fun q hq => ho q (List.mem_of_mem_eraseIdx hq))

theorem new_ok (k : Nat) (hk : k < 3) : PeerOk 3 [] (stNew k) := by
  have hk0 : (stNew k).k = fun _ => 0 := by
    funext j
    show ([0, 0, 0] : List Nat).getD j 0 = 0
    match j with
    | 0 => rfl
    | 1 => rfl
    | 2 => rfl
    | j + 3 => rfl
  refine ⟨⟨rfl, hk, ?_, ?_, ?_, ?_, List.nodup_nil, ?_, ?_⟩, ?_⟩
  · rw [hk0]; exact View.nil
  · rw [hk0]; rfl
  · intro q hq; cases hq
  · intro q hq; cases hq
  · intro q hq; cases hq
  · rw [hk0]
    refine ⟨rfl, fun j l hl => ?_⟩
    have hl : l = [] := by
      have := List.mem_of_getElem? hl
      simp only [stNew, List.mem_cons, List.not_mem_nil, or_false] at this
      rcases this with h | h | h <;> exact h
    subst hl
    exact ⟨rfl, fun i o hi => by simp at hi⟩
  · intro q hq; cases hq

theorem new_fit (k : Nat) (hk : k < 3) : Fit 3 (stNew k) := ⟨rfl, by decide, by decide, hk, by intro n hn; simp [stNew] at hn; omega, by show 0 < 4294967296; decide, fun o ho => (by cases ho), Nat.zero_le _, fun e he => (by cases he), fun l hl o ho => (by
  simp only [stNew, List.mem_cons, List.not_mem_nil, or_false] at hl
  rcases hl with rfl | rfl | rfl <;> cases ho)⟩

theorem GOk.start : GOk 0 [] stNew 0 where
  hist := HistOk.nil
  grp := fun q hq => by cases hq
  right := fun q hq => by cases hq
  len := Nat.le_refl _
  cnt := Nat.le_refl _
  ok := new_ok
  inrow := fun k hk => List.Pairwise.nil
  me := fun k hk => rfl
  fit := new_fit
  clk := fun k hk => Nat.le_refl _
  oclk := fun q hq => by cases hq
  size := fun k hk => Nat.le_refl _
  chr := fun q hq => by cases hq
  dist := fun q hq => by cases hq
  num := rfl

/-- The elements of a row are those of the history. -/
theorem GOk.elem {t : Nat} {H : List Ope} {ss : Nat → Pr} {count : Nat} (g : GOk t H ss count) {k : Nat} (hk : k < 3) {e : El} (he : e ∈ (ss k).row) : ∃ q ∈ H, q.ins = true ∧ q.num ≤ (ss k).k q.peer ∧ opNm q = nm e ∧ e.char = q.char := by
  obtain ⟨q, h1, h2, h3, h4, h5, _⟩ := (g.ok k hk).1.view.mem e he
  exact ⟨q, h1, h2, h3, h4, h5⟩

theorem GOk.three {t : Nat} {H : List Ope} {ss : Nat → Pr} {count : Nat} (g : GOk t H ss count) (ht : t ≤ 1000) {k : Nat} (hk : k < 3) : ∀ c ∈ liveChars (ss k).row, three c := by
  have key : ∀ es : List El, (∀ e ∈ es, Go.Proofs.Ytgfafbanahiigaa.three e.char) → ∀ c ∈ liveChars es, Go.Proofs.Ytgfafbanahiigaa.three c := by
    intro es
    induction es with
    | nil => intro _ c hc; cases hc
    | cons e r ih =>
      intro h c hc
      unfold liveChars at hc
      split at hc
      · exact ih (fun x hx => h x (by simp [hx])) c hc
      · rcases List.mem_cons.1 hc with rfl | hc
        · exact h e (by simp)
        · exact ih (fun x hx => h x (by simp [hx])) c hc
  refine key _ (fun e he => ?_)
  obtain ⟨q, h1, h2, _, _, h5⟩ := g.elem hk he
  obtain ⟨h6, h7⟩ := g.chr q h1 h2
  have := g.cnt
  rw [h5]; unfold Go.Proofs.Ytgfafbanahiigaa.three; omega

theorem cnt_le (H : List Ope) (j : Nat) : Go.Chorus.cnt H j ≤ H.length := by
  induction H with
  | nil => exact Nat.le_refl _
  | cons o r ih => simp only [Go.Chorus.cnt, List.length_cons]; split <;> omega

theorem GOk.kk {t : Nat} {H : List Ope} {ss : Nat → Pr} {count : Nat} (g : GOk t H ss count) {k : Nat} (hk : k < 3) (j : Nat) : (ss k).k j ≤ t :=
  Nat.le_trans ((g.ok k hk).1.view.le j) (Nat.le_trans (cnt_le H j) g.len)

/-- What a peer makes is right. -/
theorem GOk.makes {t : Nat} {H : List Ope} {ss : Nat → Pr} {count : Nat} (g : GOk t H ss count) (ht : t ≤ 1000) {k : Nat} (hk : k < 3) (ins : Bool) (tt : Nm) (ch : Nat) (hch : if ins then okChar ch else ch = 0) (htt : (ins = true ∧ tt = (0, 0)) ∨ ∃ e ∈ (ss k).row, nm e = tt) : RightOp 3 ((ss k).makes ins tt ch) := by
  have hf := g.fit k hk
  have hme := g.me k hk
  have hclk := g.clk k hk
  have hlen := g.len
  have hkk : (ss k).k (ss k).me ≤ H.length := by
    rw [(g.ok k hk).1.own]
    have : ∀ (H : List Ope) (j : Nat), Go.Chorus.cnt H j ≤ H.length := by
      intro H j
      induction H with
      | nil => exact Nat.le_refl _
      | cons o r ih => simp only [Go.Chorus.cnt, List.length_cons]; split <;> omega
    exact this H _
  have hname : tt.1 < 4294967296 ∧ tt.2 < 3 ∧ (tt.1 = 0 → ins = true ∧ tt.2 = 0) := by
    rcases htt with ⟨h1, h2⟩ | ⟨e, he, h2⟩
    · rw [h2]; exact ⟨by decide, by decide, fun _ => ⟨h1, rfl⟩⟩
    · obtain ⟨q, q1, q2, _, q4, _⟩ := g.elem hk he
      have r := g.right q q1
      rw [h2] at q4
      rw [← q4]
      exact ⟨r.clock.2, r.peer, fun h0 => by have := r.clock.1; have h3 : (opNm q).1 = q.clock := rfl; omega⟩
  refine ⟨by decide, ?_, ⟨?_, ?_⟩, ⟨?_, ?_⟩, hf.len, hf.known, rfl, ⟨hname.1, hname.2.1⟩, hname.2.2, hch⟩
  · show (ss k).me < 3; rw [hme]; exact hk
  · show 1 ≤ (ss k).k (ss k).me + 1; omega
  · show (ss k).k (ss k).me + 1 < 4294967296; omega
  · show 1 ≤ (ss k).clock + 1; omega
  · show (ss k).clock + 1 < 4294967296; omega

theorem deliverF_fit {N : Nat} {s : Pr} (h : Fit N s) {o : Ope} (ho : RightOp N o) (hc : o.num = s.k o.peer + 1) : Fit N (s.deliverF o).1 ∧ psize (s.deliverF o).1 ≤ psize s + 1 := by
  obtain ⟨a, b⟩ := settleF_fit s.held.length (s.apply o) (h.apply ho hc)
  exact ⟨a, Nat.le_trans b (size_apply s o)⟩

/-- A peer writes. -/
theorem GOk.write {t : Nat} {H : List Ope} {ss : Nat → Pr} {count : Nat} (g : GOk t H ss count) (ht : t ≤ 1000) {k : Nat} (hk : k < 3) (ins : Bool) (tt : Nm) (ch : Nat) (hch : if ins then okChar ch else ch = 0) (htt : (ins = true ∧ tt = (0, 0)) ∨ ∃ e ∈ (ss k).row, nm e = tt) (hins : ins = true → ch = 19968 + count) :
    GOk (t + 1) ((ss k).makes ins tt ch :: H) (upd ss k ((ss k).deliverF ((ss k).makes ins tt ch)).1) (if ins then count + 1 else count) := by
  have hR := g.makes ht hk ins tt ch hch htt
  obtain ⟨w1, w2, w3, w4⟩ := deliverF_ok g.hist g.grp (g.ok k hk) (g.inrow k hk) ins tt ch htt
  obtain ⟨o, ho⟩ : ∃ o, (ss k).makes ins tt ch = o := ⟨_, rfl⟩
  have hop : o.peer = k := by rw [← ho]; exact g.me k hk
  have hoi : o.ins = ins := by rw [← ho]; rfl
  have hoc : o.clock = (ss k).clock + 1 := by rw [← ho]; rfl
  have hoch : o.char = ch := by rw [← ho]; rfl
  have hon : o.num = (ss k).k o.peer + 1 := by rw [hop, ← ho]; show (ss k).k (ss k).me + 1 = _; rw [g.me k hk]
  rw [ho] at hR w1 w2 w3 w4 ⊢
  have hclk := g.clk k hk
  obtain ⟨f1, f2⟩ := deliverF_fit (g.fit k hk) hR hon
  have hheld : ∀ q ∈ (ss k).held, q.clock ≤ H.length + 1 := fun q hq => by
    have := g.oclk q ((g.ok k hk).1.held q hq); omega
  obtain ⟨c1, c2⟩ := settleF_clock (H.length + 1) (ss k).held.length ((ss k).apply o) (by show max (ss k).clock o.clock ≤ _; omega) hheld
  have hcount : count ≤ (if ins then count + 1 else count) := by split <;> omega
  refine ⟨w1, w2, ?_, ?_, ?_, ?_, ?_, ?_, ?_, ?_, ?_, ?_, ?_, ?_, ?_⟩
  · intro q hq
    rcases List.mem_cons.1 hq with rfl | hq
    · exact hR
    · exact g.right q hq
  · have := g.len; simp; omega
  · have := g.cnt; split <;> omega
  · intro j hj
    by_cases hjk : j = k
    · subst hjk; rw [upd_same]; exact w3
    · rw [upd_other _ _ _ _ hjk]
      exact (g.ok j hj).more w1 (by rw [hop, g.me j hj]; exact fun e => hjk e.symm)
  · intro j hj
    by_cases hjk : j = k
    · subst hjk; rw [upd_same]; exact w4
    · rw [upd_other _ _ _ _ hjk]; exact g.inrow j hj
  · intro j hj
    by_cases hjk : j = k
    · subst hjk; rw [upd_same]; show (settleF _ _).1.me = j; rw [c2]; exact g.me j hj
    · rw [upd_other _ _ _ _ hjk]; exact g.me j hj
  · intro j hj
    by_cases hjk : j = k
    · subst hjk; rw [upd_same]; exact f1
    · rw [upd_other _ _ _ _ hjk]; exact g.fit j hj
  · intro j hj
    by_cases hjk : j = k
    · subst hjk; rw [upd_same, List.length_cons]; exact c1
    · rw [upd_other _ _ _ _ hjk]; have := g.clk j hj; simp; omega
  · intro q hq
    rcases List.mem_cons.1 hq with rfl | hq
    · simp; omega
    · have := g.oclk q hq; simp; omega
  · intro j hj
    by_cases hjk : j = k
    · subst hjk; rw [upd_same]; have := g.size j hj; omega
    · rw [upd_other _ _ _ _ hjk]; have := g.size j hj; omega
  · intro q hq hqi
    rcases List.mem_cons.1 hq with rfl | hq
    · have h1 := hins (by rw [← hoi]; exact hqi)
      have h2 : ins = true := by rw [← hoi]; exact hqi
      rw [h2, hoch, h1]; simp
    · have := g.chr q hq hqi; omega
  · intro a ha b hb hai hbi hab
    have key : ∀ q ∈ H, q.ins = true → ins = true → q.char ≠ ch := fun q hq hqi hi e => by
      have h1 := g.chr q hq hqi
      have h2 := hins hi
      omega
    rcases List.mem_cons.1 ha with ea | ha1
    · rcases List.mem_cons.1 hb with eb | hb1
      · rw [ea, eb]
      · exfalso
        rw [ea] at hai hab
        exact key b hb1 hbi (by rw [← hoi]; exact hai) (by rw [← hab, hoch])
    · rcases List.mem_cons.1 hb with eb | hb1
      · exfalso
        rw [eb] at hbi hab
        exact key a ha1 hai (by rw [← hoi]; exact hbi) (by rw [hab, hoch])
      · exact g.dist a ha1 b hb1 hai hbi hab
  · rw [List.filter_cons, hoi]
    cases ins with
    | true => simp [g.num]
    | false => simp [g.num]

theorem recvF_packet {N : Nat} {o : Ope} (h : RightOp N o) (s : Pr) : recvF N s o.packet = s.oneF o := by
  unfold recvF
  rw [if_pos h.right, fieldsOf_packet h]

theorem oneF_clock {s : Pr} {o : Ope} (C : Nat) (h : s.clock ≤ C) (ho : ∀ q ∈ s.held, q.clock ≤ C) (hc : o.clock ≤ C) : (s.oneF o).1.clock ≤ C ∧ (s.oneF o).1.me = s.me := by
  unfold Pr.oneF
  split
  · exact ⟨h, rfl⟩
  · split
    · exact ⟨h, rfl⟩
    · split
      · exact settleF_clock C s.held.length (s.apply o) (by show max s.clock o.clock ≤ C; omega) ho
      · split
        · exact ⟨h, rfl⟩
        · exact ⟨h, rfl⟩

/-- A peer receives what was made. -/
theorem GOk.hear {t : Nat} {H : List Ope} {ss : Nat → Pr} {count : Nat} (g : GOk t H ss count) {k : Nat} (hk : k < 3) {o : Ope} (ho : o ∈ H) :
    GOk (t + 1) H (upd ss k ((ss k).oneF o).1) count ∧ OneOk 3 H (ss k) o ((ss k).oneF o).1 ((ss k).oneF o).2.1 ((ss k).oneF o).2.2 := by
  obtain ⟨q1, q2⟩ := oneF_ok g.hist g.grp (g.ok k hk) (g.inrow k hk) ho
  obtain ⟨f1, f2, _⟩ := oneF_fit (g.fit k hk) (g.right o ho)
  obtain ⟨c1, c2⟩ := oneF_clock (s := ss k) (o := o) H.length (g.clk k hk) (fun q hq => g.oclk q ((g.ok k hk).1.held q hq)) (g.oclk o ho)
  refine ⟨⟨g.hist, g.grp, g.right, by have := g.len; omega, by have := g.cnt; omega, ?_, ?_, ?_, ?_, ?_, g.oclk, ?_, g.chr, g.dist, g.num⟩, q1⟩
  · intro j hj
    by_cases hjk : j = k
    · subst hjk; rw [upd_same]; exact q1.ok
    · rw [upd_other _ _ _ _ hjk]; exact g.ok j hj
  · intro j hj
    by_cases hjk : j = k
    · subst hjk; rw [upd_same]; exact q2
    · rw [upd_other _ _ _ _ hjk]; exact g.inrow j hj
  · intro j hj
    by_cases hjk : j = k
    · subst hjk; rw [upd_same, c2]; exact g.me j hj
    · rw [upd_other _ _ _ _ hjk]; exact g.me j hj
  · intro j hj
    by_cases hjk : j = k
    · subst hjk; rw [upd_same]; exact f1
    · rw [upd_other _ _ _ _ hjk]; exact g.fit j hj
  · intro j hj
    by_cases hjk : j = k
    · subst hjk; rw [upd_same]; exact c1
    · rw [upd_other _ _ _ _ hjk]; exact g.clk j hj
  · intro j hj
    by_cases hjk : j = k
    · subst hjk; rw [upd_same]; have := g.size j hj; omega
    · rw [upd_other _ _ _ _ hjk]; have := g.size j hj; omega

/-- A character's element. -/
theorem liveAt_some (es : List El) (a : Int) (h0 : 0 ≤ a) (h1 : a < (liveChars es).length) : ∃ e ∈ es, liveAt es a = some e := by
  induction es generalizing a with
  | nil => simp [liveChars] at h1; omega
  | cons e r ih =>
    unfold liveAt
    unfold liveChars at h1
    split
    · rename_i hd
      rw [if_pos hd] at h1
      obtain ⟨x, hx, h2⟩ := ih a h0 h1
      exact ⟨x, by simp [hx], h2⟩
    · rename_i hd
      rw [if_neg hd] at h1
      split
      · exact ⟨e, by simp, rfl⟩
      · rename_i ha
        obtain ⟨x, hx, h2⟩ := ih (a - 1) (by omega) (by simp at h1; omega)
        exact ⟨x, by simp [hx], h2⟩

theorem liveChars_len (es : List El) : (liveChars es).length ≤ es.length := by
  induction es with
  | nil => exact Nat.le_refl _
  | cons e r ih => unfold liveChars; split <;> simp <;> omega

def i64ok (c : Int) : Prop := -9223372036854775808 ≤ c ∧ c ≤ 9223372036854775807

/-- The script's steps. -/
def StepsAt (w : World) (a : Option Addr) (n : Nat) : Prop :=
  ∀ i, i < n → ∃ (b off : Nat) (kd pe at_ wh : Int), a = some ⟨b, off, none⟩ ∧ w.cell? ⟨b, off + i * 4, none⟩ = some (.int .i64 kd) ∧ w.cell? ⟨b, off + i * 4 + 1, none⟩ = some (.int .i64 pe) ∧ w.cell? ⟨b, off + i * 4 + 2, none⟩ = some (.int .i64 at_) ∧ w.cell? ⟨b, off + i * 4 + 3, none⟩ = some (.int .i64 wh) ∧ i64ok kd ∧ i64ok pe ∧ i64ok at_ ∧ i64ok wh

theorem StepsAt.kept {w w' : World} {a : Option Addr} {n : Nat} (h : StepsAt w a n) (k : Kept (fun _ => False) w w') : StepsAt w' a n := fun i hi => by
  obtain ⟨b, off, kd, pe, at_, wh, e, c0, c1, c2, c3, r⟩ := h i hi
  exact ⟨b, off, kd, pe, at_, wh, e, k.cell' c0 (fun h => h), k.cell' c1 (fun h => h), k.cell' c2 (fun h => h), k.cell' c3 (fun h => h), r⟩

end Go.Proofs.Ytgfafbanahiigaa
