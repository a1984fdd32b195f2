import Derived.Test.YtgfafbanahiigaaV31
import Derived.Test.YtgfafbanahiigaaMG
import Derived.Test.YtgfafbanahiigaaHG
import Derived.Test.YtgfafbanahiigaaV19
set_option linter.unusedVariables false
set_option linter.unusedSimpArgs false
namespace Go.Proofs.Ytgfafbanahiigaa
open Go.RowKit Go.Chorus
/- Converged, in plain words. -/
theorem merged_length {ls : List (List Ope)} {r : List Ope} (h : Merged ls r) : r.length = (ls.map List.length).sum := by
  induction h using Merged.ind with
  | @nil ls h =>
    have : ls.map List.length = ls.map fun _ => 0 := List.map_congr_left (fun l hl => by rw [h l hl]; rfl)
    rw [this]
    clear h this
    induction ls with
    | nil => rfl
    | cons x r ih => simpa using ih
  | @cons ls i o t r hi hm _ ih =>
    obtain ⟨hil, hie⟩ := List.getElem?_eq_some_iff.1 hi
    have e : ls = ls.take i ++ (o :: t) :: ls.drop (i + 1) := by
      conv => lhs; rw [← List.take_append_drop i ls]
      rw [List.drop_eq_getElem_cons hil, hie]
    rw [List.length_cons, ih, List.set_eq_take_append_cons_drop, if_pos hil]
    conv => rhs; rw [e]
    simp only [List.map_append, List.map_cons, List.sum_append, List.sum_cons, List.length_cons]
    omega
theorem sum_le_mul (B : Nat) : ∀ ls : List (List Ope), (∀ l ∈ ls, l.length ≤ B) → (ls.map List.length).sum ≤ ls.length * B := by
  intro ls
  induction ls with
  | nil => intro _; simp
  | cons x r ih =>
    intro h
    have h1 := h x (by simp)
    have h2 := ih (fun l hl => h l (by simp [hl]))
    simp only [List.map_cons, List.sum_cons, List.length_cons, Nat.add_mul, Nat.one_mul]
    omega
/-- What Rest tells is no more than there is. -/
theorem rest_length {N : Nat} {H : List Ope} {k : Nat → Nat} {log : List (List Ope)} (h : LogIn N H k log) (hk : ∀ j, k j ≤ H.length) (known : List Nat) {L : List Ope} (hm : Merged (above known log) L) : L.length ≤ N * H.length := by
  rw [merged_length hm]
  have h1 : (above known log).length = N := by simp [above, h.len]
  have := sum_le_mul H.length (above known log) (fun l hl => by
    unfold above at hl
    obtain ⟨j, hj, rfl⟩ := List.mem_map.1 hl
    have hjl : j < log.length := List.mem_range.1 hj
    have e : log.getD j [] = log[j] := by rw [List.getD_eq_getElem?_getD, List.getElem?_eq_getElem hjl]; rfl
    rw [e, List.length_drop]
    have := (h.each j _ (List.getElem?_eq_getElem hjl)).1
    have := hk j
    omega)
  rw [h1] at this
  exact this
theorem upd_upd {α : Type} (f : Nat → α) (k : Nat) (x y : α) : upd (upd f k x) k y = upd f k y := by
  funext j
  unfold upd
  split <;> rfl
theorem upd_self {α : Type} (f : Nat → α) (k : Nat) : upd f k (f k) = f := by
  funext j
  unfold upd
  split
  · rename_i h; rw [h]
  · rfl
/-- A peer receives many. -/
theorem GOk.hearAll : ∀ (L : List Ope) {t : Nat} {H : List Ope} {ss : Nat → Pr} {count : Nat} (g : GOk t H ss count) {k : Nat} (hk : k < 3) (hL : ∀ o ∈ L, o ∈ H), GOk (t + L.length) H (upd ss k (recvAllF 3 (ss k) (L.map Ope.packet)).1) count := by
  intro L
  induction L with
  | nil =>
    intro t H ss count g k hk _
    show GOk (t + 0) H (upd ss k (ss k)) count
    rw [upd_self]; exact g
  | cons o L ih =>
    intro t H ss count g k hk hL
    obtain ⟨g1, _⟩ := g.hear hk (hL o (by simp))
    have e1 := recvF_packet (g.right o (hL o (by simp))) (ss k)
    have e2 : (recvAllF 3 (ss k) ((o :: L).map Ope.packet)).1 = if ((ss k).oneF o).2.2 = 0 then (recvAllF 3 ((ss k).oneF o).1 (L.map Ope.packet)).1 else ((ss k).oneF o).1 := by
      show (if (recvF 3 (ss k) o.packet).2.2 = 0 then ((recvAllF 3 (recvF 3 (ss k) o.packet).1 (L.map Ope.packet)).1, (recvF 3 (ss k) o.packet).2.1 + (recvAllF 3 (recvF 3 (ss k) o.packet).1 (L.map Ope.packet)).2.1, (recvAllF 3 (recvF 3 (ss k) o.packet).1 (L.map Ope.packet)).2.2) else recvF 3 (ss k) o.packet).1 = _
      rw [e1]
      split <;> rfl
    rw [e2]
    have mono : ∀ {t t' : Nat} {ss : Nat → Pr}, t ≤ t' → GOk t H ss count → GOk t' H ss count := fun h g => ⟨g.hist, g.grp, g.right, Nat.le_trans g.len h, Nat.le_trans g.cnt h, g.ok, g.inrow, g.me, g.fit, g.clk, g.oclk, fun j hj => Nat.le_trans (g.size j hj) h, g.chr, g.dist, g.num⟩
    by_cases h0 : ((ss k).oneF o).2.2 = 0
    · rw [if_pos h0]
      have := ih g1 hk (fun q hq => hL q (by simp [hq]))
      rw [upd_same, upd_upd] at this
      refine mono ?_ this
      rw [List.length_cons]; omega
    · rw [if_neg h0]
      exact mono (by rw [List.length_cons]; omega) g1
/-- Who knows as much as there is. -/
def Know (H : List Ope) (s : Pr) : Prop := ∀ i, i < 3 → Go.Chorus.cnt H i ≤ s.k i
theorem Know.all {t : Nat} {H : List Ope} {ss : Nat → Pr} {count : Nat} (g : GOk t H ss count) {s : Pr} (h : Know H s) : ∀ o ∈ H, o.num ≤ s.k o.peer := fun o ho => Nat.le_trans (g.hist.range o ho).2.1 (h o.peer (g.grp o ho).1)
theorem Know.k {t : Nat} {H : List Ope} {ss : Nat → Pr} {count : Nat} (g : GOk t H ss count) {k : Nat} (hk : k < 3) (h : Know H (ss k)) : (ss k).k = Go.Chorus.cnt H := by
  funext j
  refine Nat.le_antisymm ((g.ok k hk).1.view.le j) ?_
  by_cases hj : j < 3
  · exact h j hj
  · have : Go.Chorus.cnt H j = 0 := by
      have hg := g.grp
      clear h
      generalize H = H' at hg
      induction H' with
      | nil => rfl
      | cons o r ih =>
        simp only [Go.Chorus.cnt]
        have := (hg o (by simp)).1
        rw [if_neg (by omega), ih (fun q hq => hg q (by simp [hq]))]
    omega
/-- The same row, wherever all is known. -/
theorem Know.row {t : Nat} {H : List Ope} {ss : Nat → Pr} {count : Nat} (g : GOk t H ss count) {i k : Nat} (hi : i < 3) (hk : k < 3) (h1 : Know H (ss i)) (h2 : Know H (ss k)) : (ss i).row = (ss k).row := by
  have v := (g.ok i hi).1.view
  have u := (g.ok k hk).1.view
  rw [Know.k g hi h1] at v
  rw [Know.k g hk h2] at u
  exact v.alike g.hist u
theorem Know.known {t : Nat} {H : List Ope} {ss : Nat → Pr} {count : Nat} (g : GOk t H ss count) {k : Nat} (hk : k < 3) (h : Know H (ss k)) : (ss k).known = [Go.Chorus.cnt H 0, Go.Chorus.cnt H 1, Go.Chorus.cnt H 2] := by
  have hl := (g.fit k hk).len
  have e := Know.k g hk h
  apply List.ext_getElem?
  intro j
  by_cases hj : j < 3
  · have h1 : (ss k).k j = Go.Chorus.cnt H j := congrFun e j
    unfold Pr.k at h1
    rw [List.getD_eq_getElem?_getD, List.getElem?_eq_getElem (by omega)] at h1
    rw [List.getElem?_eq_getElem (by omega)]
    simp only [Option.getD_some] at h1
    rw [h1]
    match j, hj with
    | 0, _ => rfl
    | 1, _ => rfl
    | 2, _ => rfl
  · rw [List.getElem?_eq_none (by omega), List.getElem?_eq_none (by simp; omega)]
/-- Who knows all is told nothing. -/
theorem Know.rest {t : Nat} {H : List Ope} {ss : Nat → Pr} {count : Nat} (g : GOk t H ss count) {k : Nat} (hk : k < 3) (h : Know H (ss k)) {L : List Ope} (hm : Merged (above [Go.Chorus.cnt H 0, Go.Chorus.cnt H 1, Go.Chorus.cnt H 2] (ss k).log) L) : L = [] := by
  cases L with
  | nil => rfl
  | cons x r =>
    exfalso
    obtain ⟨j, l, hl, hxl, hlt⟩ := (above_mem (g.ok k hk).1.log _ x).1 ((hm.mem x).1 (by simp))
    have hjl : j < 3 := by
      have := (List.getElem?_eq_some_iff.1 hl).1
      rw [(g.ok k hk).1.log.len] at this
      exact this
    obtain ⟨h1, h2⟩ := (g.ok k hk).1.log.each j l hl
    obtain ⟨i, hi, hxe⟩ := List.getElem_of_mem hxl
    have h3 := (h2 i x (by rw [List.getElem?_eq_getElem hi, hxe])).2.2
    have h4 := (g.ok k hk).1.view.le j
    have h5 : ([Go.Chorus.cnt H 0, Go.Chorus.cnt H 1, Go.Chorus.cnt H 2] : List Nat).getD j 0 = Go.Chorus.cnt H j := by
      match j, hjl with
      | 0, _ => rfl
      | 1, _ => rfl
      | 2, _ => rfl
    rw [h5] at hlt
    omega
theorem cnt_filter (H : List Ope) (j : Nat) : Go.Chorus.cnt H j = (H.filter fun o => decide (o.peer = j)).length := by
  induction H with
  | nil => rfl
  | cons o r ih =>
    simp only [Go.Chorus.cnt, List.filter_cons, ih]
    by_cases h : o.peer = j
    · simp [h]; omega
    · simp [h]
theorem nodup_len {α : Type} [DecidableEq α] : ∀ (a b : List α), a.Nodup → (∀ x ∈ a, x ∈ b) → a.length ≤ b.length := by
  intro a
  induction a with
  | nil => intro b _ _; simp
  | cons x r ih =>
    intro b hn hs
    obtain ⟨h1, h2⟩ := List.nodup_cons.1 hn
    have hx := hs x (by simp)
    have := ih (b.erase x) h2 (fun y hy => by
      have hne : y ≠ x := fun e => h1 (e ▸ hy)
      exact (List.mem_erase_of_ne hne).2 (hs y (by simp [hy])))
    rw [List.length_erase_of_mem hx] at this
    have hp : 0 < b.length := List.length_pos_iff.2 (fun e => by rw [e] at hx; cases hx)
    rw [List.length_cons]
    omega
theorem hist_nodup {H : List Ope} (h : HistOk H) : H.Nodup := by
  induction h using HistOk.ind with
  | nil => exact List.nodup_nil
  | @cons o H h num own made whole clock pos name ih =>
    refine List.nodup_cons.2 ⟨fun hm => ?_, ih⟩
    have := (h.range o hm).2.1
    omega
theorem liveChars_filter (es : List El) : liveChars es = (es.filter fun e => !e.dead).map fun e => e.char := by
  induction es with
  | nil => rfl
  | cons e r ih =>
    unfold liveChars
    cases h : e.dead <;> simp [h, ih]
/-- The characters of a text: none twice; each is one that was inserted; as many as were inserted, but for the deleted ones. -/
theorem Know.live {t : Nat} {H : List Ope} {ss : Nat → Pr} {count : Nat} (g : GOk t H ss count) {k : Nat} (hk : k < 3) (h : Know H (ss k)) :
    (liveChars (ss k).row).Nodup ∧ (∀ c ∈ liveChars (ss k).row, 19968 ≤ c ∧ c < 19968 + (count : Int)) ∧ (liveChars (ss k).row).length ≤ count ∧ count ≤ (liveChars (ss k).row).length + (H.filter fun o => !o.ins).length := by
  have v := (g.ok k hk).1.view
  have hall := Know.all g h
  have hnames := v.row.names
  rw [liveChars_filter]
  have hlenrow : (ss k).row.length = count := by
    rw [← g.num]
    refine Nat.le_antisymm ?_ ?_
    · have := nodup_len ((ss k).row.map nm) ((H.filter fun o => o.ins).map opNm) hnames (fun x hx => by
        obtain ⟨e, he, rfl⟩ := List.mem_map.1 hx
        obtain ⟨q, q1, q2, _, q4, _⟩ := v.mem e he
        exact List.mem_map.2 ⟨q, List.mem_filter.2 ⟨q1, q2⟩, q4⟩)
      simpa using this
    · have hn : ((H.filter fun o => o.ins).map opNm).Nodup := by
        rw [List.Nodup, List.pairwise_map]
        refine List.Pairwise.imp_of_mem ?_ ((hist_nodup g.hist).filter _)
        intro a b ha hb hab e
        exact hab (g.hist.inj_name (List.mem_filter.1 ha).1 (List.mem_filter.1 hb).1 e)
      have := nodup_len ((H.filter fun o => o.ins).map opNm) ((ss k).row.map nm) hn (fun x hx => by
        obtain ⟨q, hq, rfl⟩ := List.mem_map.1 hx
        obtain ⟨q1, q2⟩ := List.mem_filter.1 hq
        obtain ⟨e, he, hne⟩ := v.all q q1 q2 (hall q q1)
        exact List.mem_map.2 ⟨e, he, hne⟩)
      simpa using this
  have hsplit : ((ss k).row.filter fun e => !e.dead).length + ((ss k).row.filter fun e => e.dead).length = (ss k).row.length := by
    have key : ∀ l : List El, (l.filter fun e => !e.dead).length + (l.filter fun e => e.dead).length = l.length := by
      intro l
      induction l with
      | nil => rfl
      | cons e r ih =>
        cases hd : e.dead
        · simp [hd]; omega
        · simp [hd]; omega
    exact key _
  have hdead : ((ss k).row.filter fun e => e.dead).length ≤ (H.filter fun o => !o.ins).length := by
    have hn : (((ss k).row.filter fun e => e.dead).map nm).Nodup := hnames.sublist (List.Sublist.map nm List.filter_sublist)
    have := nodup_len (((ss k).row.filter fun e => e.dead).map nm) ((H.filter fun o => !o.ins).map targ) hn (fun x hx => by
      obtain ⟨e, he, rfl⟩ := List.mem_map.1 hx
      obtain ⟨e1, e2⟩ := List.mem_filter.1 he
      obtain ⟨q, q1, q2, _, q4, q5, q6⟩ := v.mem e e1
      obtain ⟨d, d1, d2, _, d4⟩ := q6.1 e2
      exact List.mem_map.2 ⟨d, List.mem_filter.2 ⟨d1, by simp [d2]⟩, d4⟩)
    simpa using this
  refine ⟨?_, ?_, ?_, ?_⟩
  · rw [List.Nodup, List.pairwise_map]
    have hp : (ss k).row.Pairwise fun a b => nm a ≠ nm b := by
      rw [List.Nodup, List.pairwise_map] at hnames
      exact hnames
    refine List.Pairwise.imp_of_mem ?_ (hp.filter _)
    intro a b ha hb hab e
    obtain ⟨q, q1, q2, _, q4, q5, _⟩ := v.mem a (List.mem_filter.1 ha).1
    obtain ⟨p, p1, p2, _, p4, p5, _⟩ := v.mem b (List.mem_filter.1 hb).1
    have : q = p := g.dist q q1 p p1 q2 p2 (by
      rw [q5, p5] at e
      omega)
    subst this
    exact hab (by rw [← q4, ← p4])
  · intro c hc
    obtain ⟨e, he, rfl⟩ := List.mem_map.1 hc
    obtain ⟨q, q1, q2, _, _, q5, _⟩ := v.mem e (List.mem_filter.1 he).1
    have := g.chr q q1 q2
    rw [q5]; omega
  · rw [List.length_map]; omega
  · rw [List.length_map]; omega
/-- A group in which these were made, in this order. -/
def Cv (w wr : World) (bg bl lc : Nat) (bp : Nat → Nat) (t : Nat) (ss : Nat → Pr) (ops : List Ope) (count : Nat) : Prop :=
  ∃ Fs pv mds, mds.map Mk.o = ops ∧ GSt (fun b => w.heap.size ≤ b) wr bg bl lc bp ss Fs pv mds count ∧ GOk t ops.reverse ss count ∧ Kept (fun _ => False) w wr
theorem Cv.quiet {w wr wr' : World} {bg bl lc : Nat} {bp : Nat → Nat} {t : Nat} {ss : Nat → Pr} {ops : List Ope} {count : Nat} (h : Cv w wr bg bl lc bp t ss ops count) (k : Kept (fun _ => False) wr wr') : Cv w wr' bg bl lc bp t ss ops count := by
  obtain ⟨Fs, pv, mds, h1, h2, h3, h4⟩ := h
  exact ⟨Fs, pv, mds, h1, h2.quiet k, h3, h4.trans' k⟩
theorem Cv.ok {w wr : World} {bg bl lc : Nat} {bp : Nat → Nat} {t : Nat} {ss : Nat → Pr} {ops : List Ope} {count : Nat} (h : Cv w wr bg bl lc bp t ss ops count) : GOk t ops.reverse ss count ∧ Kept (fun _ => False) w wr := by
  obtain ⟨Fs, pv, mds, h1, h2, h3, h4⟩ := h
  exact ⟨h3, h4⟩
theorem cv_cells {w wr : World} {bg bl lc : Nat} {bp : Nat → Nat} {t : Nat} {ss : Nat → Pr} {ops : List Ope} {count : Nat} (X : Cv w wr bg bl lc bp t ss ops count) :
    wr.cell? ⟨bg, 0, none⟩ = some (.slice (some ⟨bl, 0, none⟩) 3 lc) ∧ wr.cell? ⟨bg, 2, none⟩ = some (.int .i64 count) ∧ (∀ k, k < 3 → wr.cell? ⟨bl, k, none⟩ = some (.pointer (some ⟨bp k, 0, none⟩))) ∧ bg < wr.heap.size ∧ bl < wr.heap.size := by
  obtain ⟨Fs, pv, mds, h1, G, O, K⟩ := X
  obtain ⟨cur, hl1, hl2⟩ := G.list
  exact ⟨by rw [Lib.cell_of_heap G.block]; rfl, by rw [Lib.cell_of_heap G.block]; rfl, fun k hk => by rw [Lib.cell_of_heap hl1]; exact hl2 k hk, lt_of_heap G.block, lt_of_heap hl1⟩
theorem cv_packets {w wr : World} {bg bl lc : Nat} {bp : Nat → Nat} {t : Nat} {ss : Nat → Pr} {ops : List Ope} {count : Nat} (X : Cv w wr bg bl lc bp t ss ops count) :
    ∃ a cp, wr.cell? ⟨bg, 1, none⟩ = some (.slice a ops.length cp) ∧ ∀ (i : Nat) (o : Ope), ops[i]? = some o → ∃ gp, a = some ⟨gp, 0, none⟩ ∧ gp < wr.heap.size ∧ wr.cell? ⟨gp, i * 4, none⟩ = some (.string ⟨o.packet.toArray⟩) ∧ wr.cell? ⟨gp, i * 4 + 1, none⟩ = some (.int .i64 o.peer) := by
  obtain ⟨Fs, pv, mds, h1, G, O, K⟩ := X
  have hlen : mds.length = ops.length := by rw [← h1, List.length_map]
  obtain ⟨apv, cpv, hpv, _, hpvc⟩ := own_slice G.packets
  subst hpv
  refine ⟨apv, cpv, by rw [Lib.cell_of_heap G.block, ← hlen]; rfl, fun i o hi => ?_⟩
  have hio : i < ops.length := (List.getElem?_eq_some_iff.1 hi).1
  obtain ⟨m, hm⟩ : ∃ m, mds[i]? = some m := ⟨_, List.getElem?_eq_getElem (by omega)⟩
  have hmo : m.o = o := by
    rw [← h1, List.getElem?_map, hm] at hi
    simpa using hi
  obtain ⟨gp, curp, rfl, hgp, htkp⟩ : ∃ gp curp, apv = some ⟨gp, 0, none⟩ ∧ wr.heap[gp]? = some (.cells curp 51 (0, 0)) ∧ curp.toList.take (mds.length * 4) = madesCells mds := by
    rcases G.packets.2 with ⟨e, h0⟩ | ⟨g, cap, cur, e, _, hg, _, _, _, htk⟩
    · omega
    · injection e with x1 x2 x3
      exact ⟨g, cur, x1, hg, htk⟩
  have key : ∀ j v, j < 4 → m.cells[j]? = some v → wr.cell? ⟨gp, i * 4 + j, none⟩ = some v := fun j v hj hv => by
    have h3 := madesCells_at mds i m hm j hj
    rw [hv, ← htkp, List.getElem?_take] at h3
    split at h3
    · rw [Lib.cell_of_heap hgp, ← Array.getElem?_toList]; exact h3
    · cases h3
  refine ⟨gp, rfl, lt_of_heap hgp, ?_, ?_⟩
  · have := key 0 _ (by decide) rfl
    rw [hmo] at this
    exact this
  · have := key 1 _ (by decide) rfl
    rw [hmo] at this
    exact this
theorem cv_text {w wr : World} {bg bl lc : Nat} {bp : Nat → Nat} {t : Nat} {ss : Nat → Pr} {ops : List Ope} {count : Nat} (X : Cv w wr bg bl lc bp t ss ops count) (ht : t ≤ 10000) (k : Nat) (hk : k < 3) :
    Calls Try.prog 17 #[.pointer (some ⟨bp k, 0, none⟩)] wr fun e' w' => e' = .returned (.string ⟨(textBytes (ss k).row).toArray⟩) ∧ Kept (fun _ => False) wr w' := by
  obtain ⟨Fs, pv, mds, h1, G, O, K⟩ := X
  exact text_pm (ss k) (bp k) (Fs k) wr (G.peers k hk) (by have := O.size k hk; unfold psize at this; omega) (O.fit k hk).row
theorem cv_known {w wr : World} {bg bl lc : Nat} {bp : Nat → Nat} {t : Nat} {ss : Nat → Pr} {ops : List Ope} {count : Nat} (X : Cv w wr bg bl lc bp t ss ops count) (k : Nat) (hk : k < 3) :
    Calls Try.prog 16 #[.pointer (some ⟨bp k, 0, none⟩)] wr fun e' w' => e' = .returned (.slice (some ⟨wr.heap.size, 0, none⟩) 3 3) ∧ w'.heap[wr.heap.size]? = some (.cells (i64s (ss k).known) 3 (0, 0)) ∧ Kept (fun _ => False) wr w' := by
  obtain ⟨Fs, pv, mds, h1, G, O, K⟩ := X
  have := known_pm (ss k) 3 (bp k) (Fs k) wr (G.peers k hk) (O.fit k hk)
  rw [(O.fit k hk).len] at this
  exact this
/-- What Rest tells. -/
def RestOk (N : Nat) (known : List Nat) (log : List (List Ope)) (wx : World) (pv : Value) : Prop :=
  ∃ L, Merged (above known log) L ∧ wx.ownsRow 0 9 1 pv L.length (strsOf L) ∧ ∀ b, pv.ownBlock = some b → N ≤ b
theorem RestOk.quiet {N : Nat} {known : List Nat} {log : List (List Ope)} {wx wy : World} {pv : Value} (h : RestOk N known log wx pv) (k : Kept (fun _ => False) wx wy) : RestOk N known log wy pv := by
  obtain ⟨L, a, b, c⟩ := h
  exact ⟨L, a, ownsRow_kept b k (fun _ _ h => h), c⟩
theorem cv_rest {w wr : World} {bg bl lc : Nat} {bp : Nat → Nat} {t : Nat} {ss : Nat → Pr} {ops : List Ope} {count : Nat} (X : Cv w wr bg bl lc bp t ss ops count) (k : Nat) (hk : k < 3) (qs : List Nat) (hql : qs.length = 3) (hqb : ∀ n ∈ qs, n < 4294967296) (gq cq : Nat) (hq : wr.heap[gq]? = some (.cells (i64s qs) 3 (0, 0))) :
    Calls Try.prog 25 #[.pointer (some ⟨bp k, 0, none⟩), .slice (some ⟨gq, 0, none⟩) 3 cq] wr fun e' w' => ∃ pv, e' = .returned (.tuple #[pv, .int .i64 0]) ∧ RestOk wr.heap.size qs (ss k).log w' pv ∧ Kept (fun _ => False) wr w' := by
  obtain ⟨Fs, pv, mds, h1, G, O, K⟩ := X
  refine (rest_any (ss k) 3 (bp k) (Fs k) qs gq cq wr (G.peers k hk) (O.fit k hk) (by decide) hql (fun i n hi => by rw [Lib.cell_of_heap hq, i64s_at, hi]; rfl) hqb).mono ?_
  rintro e' w' ⟨pv, rfl, L, a1, a2, a3, a4, _⟩
  exact ⟨pv, rfl, ⟨L, a1, a2, a4⟩, a3⟩
theorem cnt_length (H : List Ope) (j : Nat) : Go.Chorus.cnt H j ≤ H.length := by
  induction H with
  | nil => exact Nat.le_refl _
  | cons o r ih => simp only [Go.Chorus.cnt, List.length_cons]; split <;> omega
/-- The rest that one tells is received by another one: it knows all that the first one knows. -/
theorem cv_recv {w w0 w1 : World} {bg bl lc : Nat} {bp : Nat → Nat} {t : Nat} {ss : Nat → Pr} {ops : List Ope} {count : Nat} (X : Cv w w0 bg bl lc bp t ss ops count) (hk : Kept (fun _ => False) w0 w1) (ht : t ≤ 10000) (hol : ops.length ≤ 60) (a b : Nat) (ha : a < 3) (hb : b < 3) (pv : Value) (R : RestOk w0.heap.size (ss a).known (ss b).log w1 pv) :
    Calls Try.prog 23 #[.pointer (some ⟨bp a, 0, none⟩), pv] w1 fun e' w' => ∃ n : Nat, e' = .returned (.tuple #[.int .i64 n, .int .i64 0]) ∧ n < 4294967296 ∧ ∃ t' s', t' ≤ t + 180 ∧ Cv w w' bg bl lc bp t' (upd ss a s') ops count ∧ (∀ j, (ss a).k j ≤ s'.k j) ∧ ∀ j, (ss b).k j ≤ s'.k j := by
  obtain ⟨Fs, pw, mds, h1, G, O, K⟩ := X
  obtain ⟨L, hm, hrow, hnew⟩ := R
  have hkk : ∀ j, (ss b).k j ≤ ops.reverse.length := fun j => Nat.le_trans ((O.ok b hb).1.view.le j) (cnt_length _ _)
  have hLl := rest_length (O.ok b hb).1.log hkk _ hm
  rw [List.length_reverse] at hLl
  obtain ⟨j1, j2, j3, j4, j5, j6⟩ := rest_joinsF O.hist O.grp O.right (O.ok a ha) (O.inrow a ha) (O.ok b hb) hm
  have hin : ∀ x ∈ L, x ∈ ops.reverse := fun x hx => by
    obtain ⟨j, l, hl, hxl, _⟩ := (above_mem (O.ok b hb).1.log (ss a).known x).1 ((hm.mem x).1 hx)
    obtain ⟨i, hi, hxe⟩ := List.getElem_of_mem hxl
    exact (((O.ok b hb).1.log.each j l hl).2 i x (by rw [List.getElem?_eq_getElem hi, hxe])).1
  have O2 := GOk.hearAll L O ha hin
  obtain ⟨av, cv, hve, _, _⟩ := own_slice hrow
  subst hve
  have hsl : (L.map Ope.packet).length = L.length := List.length_map _
  have hstr : StrsAt w1 av (L.map Ope.packet) := fun hne => by
    rcases hrow.2 with ⟨e, h0⟩ | ⟨g, cap, cur, e, _, hg, _, _, _, htk⟩
    · exact absurd (by rw [List.length_eq_zero_iff.1 h0]; rfl) hne
    · injection e with e1 e2 e3
      refine ⟨g, e1, fun i l hi => ?_⟩
      have hil : i < L.length := by
        have := (List.getElem?_eq_some_iff.1 hi).1
        rw [hsl] at this; exact this
      have h2 : (strsOf L)[i]? = some (.string ⟨l.toArray⟩) := by
        unfold strsOf
        rw [List.getElem?_map] at hi ⊢
        rw [List.getElem?_eq_getElem hil] at hi ⊢
        simp only [Option.map_some, Option.some.injEq] at hi ⊢
        rw [hi]
      rw [← htk, List.getElem?_take] at h2
      split at h2
      · rw [Lib.cell_of_heap hg, ← Array.getElem?_toList]; exact h2
      · cases h2
  have hrc := receive_any (ss a) 3 (bp a) (Fs a) (L.map Ope.packet) av cv w1 ((G.peers a ha).quiet hk) (O.fit a ha) (by have := O.size a ha; rw [hsl]; omega) hstr (fun ad had hf => by
    subst had
    have h2 := hnew ad.block rfl
    have h3 := (G.peers a ha).lt _ hf
    omega)
  rw [hsl] at hrc
  have hsum : (recvAllF 3 (ss a) (L.map Ope.packet)).2.1 < 4294967296 := by
    have key : ∀ (ls : List (List UInt8)) (s : Pr), Fit 3 s → (recvAllF 3 s ls).2.1 ≤ 17 * ls.length := by
      intro ls
      induction ls with
      | nil => intro s _; exact Nat.le_refl _
      | cons l r ih =>
        intro s hs
        obtain ⟨f1, _, f3⟩ := recvF_fit hs l
        have h4 := ih _ f1
        show (if (recvF 3 s l).2.2 = 0 then ((recvAllF 3 (recvF 3 s l).1 r).1, (recvF 3 s l).2.1 + (recvAllF 3 (recvF 3 s l).1 r).2.1, (recvAllF 3 (recvF 3 s l).1 r).2.2) else recvF 3 s l).2.1 ≤ _
        rw [List.length_cons]
        split
        · show (recvF 3 s l).2.1 + (recvAllF 3 (recvF 3 s l).1 r).2.1 ≤ _
          omega
        · omega
    have := key (L.map Ope.packet) (ss a) (O.fit a ha)
    rw [hsl] at this
    omega
  refine hrc.mono ?_
  rintro e' w' ⟨rfl, hT⟩
  rw [j3]
  obtain ⟨Fs', G6, K6, _⟩ := (G.quiet hk).turn (fun b hb => Nat.le_trans K.size (Nat.le_trans hk.size hb)) ha hT
  refine ⟨_, rfl, hsum, t + L.length, _, by omega, ⟨Fs', _, mds, h1, G6, O2, (K.trans' hk).trans K6 (fun i hi h => by have h' : w.heap.size ≤ i := h; omega)⟩, j5, j6⟩
theorem info_int' : (Try.prog.info? 3).map (fun i => (i.zero, i.size, i.bytes)) = some (some (.int .i64 0), 1, 8) := by kernel_rfl
theorem info_bool' : (Try.prog.info? 4).map (fun i => (i.zero, i.size, i.bytes)) = some (some (.bool false), 1, 1) := by kernel_rfl
theorem mk_ints (w : World) : (Instr.makeSlice 35 (.int .i64 3) (.int .i64 3)).run Try.prog w = .ok (.slice (some ⟨w.heap.size, 0, none⟩) 3 3) (w.alloc (.cells (i64s [0, 0, 0]) 3)) := by
  obtain ⟨i0, hi, hz0, hz1, hz2⟩ := info_parts info_int'
  have := run_make w 35 3 i0 (.int .i64 0) Try.underlying35 hi hz0 .i64 .i64 3 3 (by omega) (by omega) (by rw [hz2]; omega) (by omega)
  rw [hz1] at this
  have e : i64s [0, 0, 0] = madeCells #[Value.int .i64 0] (3 * 1) := (made_zeros64 3).symm
  rw [e]
  exact this
def cvBools (l : List Bool) : Array Value := (l.map fun b => Value.bool b).toArray
theorem cvBools_at (l : List Bool) (i : Nat) : (cvBools l)[i]? = l[i]?.map fun b => Value.bool b := by simp [cvBools]
theorem made_falses' (n : Nat) : madeCells #[Value.bool false] (n * 1) = cvBools (List.replicate n false) := by
  apply Array.ext
  · simp [madeCells, cvBools]
  · intro i h1 h2
    simp [madeCells, cvBools, Nat.mod_one]
theorem mk_bools (w : World) : (Instr.makeSlice 47 (.int .i64 60) (.int .i64 60)).run Try.prog w = .ok (.slice (some ⟨w.heap.size, 0, none⟩) 60 60) (w.alloc (.cells (cvBools (List.replicate 60 false)) 4)) := by
  obtain ⟨i0, hi, hz0, hz1, hz2⟩ := info_parts info_bool'
  have := run_make w 47 4 i0 (.bool false) Try.underlying47 hi hz0 .i64 .i64 60 60 (by omega) (by omega) (by rw [hz2]; omega) (by omega)
  rw [hz1] at this
  rw [← made_falses']
  exact this
def cntp (l : List Ope) (j : Nat) : Nat := (l.filter fun o => decide (o.peer = j)).length
def cn3 (l : List Ope) : List Nat := [cntp l 0, cntp l 1, cntp l 2]
theorem cntp_snoc (l : List Ope) (o : Ope) (j : Nat) : cntp (l ++ [o]) j = if o.peer = j then cntp l j + 1 else cntp l j := by
  unfold cntp
  rw [List.filter_append, List.length_append]
  by_cases h : o.peer = j
  · simp [h]
  · simp [h]
theorem cn3_snoc (l : List Ope) (o : Ope) (h : o.peer < 3) : i64s (cn3 (l ++ [o])) = (i64s (cn3 l)).setIfInBounds o.peer (.int .i64 ((cntp l o.peer : Int) + 1)) := by
  have key : ∀ p, p < 3 → o.peer = p → i64s (cn3 (l ++ [o])) = (i64s (cn3 l)).setIfInBounds p (.int .i64 ((cntp l p : Int) + 1)) := by
    intro p hp e
    unfold cn3
    rw [cntp_snoc, cntp_snoc, cntp_snoc, e]
    match p, hp with
    | 0, _ => simp [i64s]
    | 1, _ => simp [i64s]
    | 2, _ => simp [i64s]
  exact key o.peer h rfl
theorem cn3_at (l : List Ope) (j : Nat) (h : j < 3) : (i64s (cn3 l))[j]? = some (.int .i64 (cntp l j : Int)) := by
  rw [i64s_at]
  match j, h with
  | 0, _ => rfl
  | 1, _ => rfl
  | 2, _ => rfl
theorem cn3_end (ops : List Ope) : cn3 ops = [Go.Chorus.cnt ops.reverse 0, Go.Chorus.cnt ops.reverse 1, Go.Chorus.cnt ops.reverse 2] := by
  unfold cn3 cntp
  rw [cnt_filter, cnt_filter, cnt_filter, List.filter_reverse, List.filter_reverse, List.filter_reverse, List.length_reverse, List.length_reverse, List.length_reverse]
/-- The deletions. -/
def dels (l : List Ope) : Nat := (l.filter fun o => !o.ins).length
theorem dels_snoc (l : List Ope) (o : Ope) : dels (l ++ [o]) = if o.ins then dels l else dels l + 1 := by
  unfold dels
  rw [List.filter_append, List.length_append]
  cases h : o.ins <;> simp [h]
theorem dels_rev (l : List Ope) : (l.reverse.filter fun o => !o.ins).length = dels l := by
  unfold dels
  rw [List.filter_reverse, List.length_reverse]
theorem take_snoc (l : List Ope) (i : Nat) (o : Ope) (h : l[i]? = some o) : l.take (i + 1) = l.take i ++ [o] := by
  obtain ⟨h1, h2⟩ := List.getElem?_eq_some_iff.1 h
  rw [List.take_succ_eq_append_getElem h1, h2]
theorem packet_first (o : Ope) : ∃ r, o.packet = UInt8.ofNat o.kind :: r := ⟨_, rfl⟩
/-- Which characters of the first i were met. -/
def metOf (cs : List Int) (i : Nat) : List Bool := (List.range 60).map fun (x : Nat) => decide (((19968 : Int) + (x : Int)) ∈ cs.take i)
theorem metOf_zero (cs : List Int) : metOf cs 0 = List.replicate 60 false := by
  unfold metOf
  apply List.ext_getElem?
  intro j
  simp only [List.take_zero, List.not_mem_nil, decide_false, List.getElem?_map, List.getElem?_replicate]
  by_cases h : j < 60
  · simp [h]
  · simp [h]
theorem metOf_step (cs : List Int) (i : Nat) (c : Int) (x : Nat) (hc : cs[i]? = some c) (hx : c = 19968 + (x : Int)) (h60 : x < 60) (hn : cs.Nodup) :
    (metOf cs i)[x]? = some false ∧ (cvBools (metOf cs i)).setIfInBounds x (.bool true) = cvBools (metOf cs (i + 1)) := by
  obtain ⟨h1, h2⟩ := List.getElem?_eq_some_iff.1 hc
  have hts : cs.take (i + 1) = cs.take i ++ [c] := by rw [List.take_succ_eq_append_getElem h1, h2]
  have hni : c ∉ cs.take i := fun hm => by
    have hh : (cs.take (i + 1)).Nodup := hn.sublist (List.take_sublist _ _)
    rw [hts, List.nodup_append] at hh
    exact hh.2.2 c hm c (by simp) rfl
  refine ⟨?_, ?_⟩
  · unfold metOf
    rw [List.getElem?_map, List.getElem?_range h60]
    simp only [Option.map_some, ← hx, hni, decide_false]
  · apply Array.ext_getElem?
    intro j
    rw [Array.getElem?_setIfInBounds, cvBools_at, cvBools_at]
    unfold metOf
    rw [hts]
    simp only [List.getElem?_map]
    by_cases hj : j < 60
    · rw [List.getElem?_range hj]
      by_cases hxj : x = j
      · subst hxj
        have hs : x < (cvBools ((List.range 60).map fun (y : Nat) => decide (((19968 : Int) + (y : Int)) ∈ cs.take i))).size := by
          simp [cvBools]; omega
        rw [if_pos rfl, if_pos hs]
        simp [← hx]
      · rw [if_neg hxj]
        have : ¬ ((19968 : Int) + (j : Int) = c) := by omega
        simp [this]
    · have hxj : ¬ x = j := by omega
      rw [if_neg hxj, List.getElem?_eq_none (by simp; omega)]
      rfl
end Go.Proofs.Ytgfafbanahiigaa
