import Derived.Test.YtgfafbanahiigaaV16
import Derived.Lib.DecodeN
import Derived.Laws.IdiomStrings
set_option linter.unusedVariables false
set_option linter.unusedSimpArgs false
namespace Go.Proofs.Ytgfafbanahiigaa
open Go.RowKit Go.Chorus

/-- A character of three bytes. -/
def three (c : Int) : Prop := 2048 ≤ c ∧ c < 55296

theorem enc_three {c : Int} (h : three c) : ∃ a b d : UInt8, Lib.encodeRune c = [a, b, d] ∧ (a.toNat : Int) = 224 + c / 4096 ∧ (b.toNat : Int) = 128 + c / 64 % 64 ∧ (d.toNat : Int) = 128 + c % 64 := by
  unfold three at h
  refine ⟨_, _, _, by unfold Lib.encodeRune; rw [Lib.encodeRuneZ_three (Or.inl h)]; rfl, ?_, ?_, ?_⟩
  · simp only [Nat.toUInt8_eq, UInt8.toNat_ofNat']; omega
  · simp only [Nat.toUInt8_eq, UInt8.toNat_ofNat']; omega
  · simp only [Nat.toUInt8_eq, UInt8.toNat_ofNat']; omega

theorem dec_three (s : ByteArray) (pos : Nat) (c : Int) (h : three c) (a b d : UInt8) (ha : (a.toNat : Int) = 224 + c / 4096) (hb : (b.toNat : Int) = 128 + c / 64 % 64) (hd : (d.toNat : Int) = 128 + c % 64)
    (h0 : s.data.toList[pos]? = some a) (h1 : s.data.toList[pos + 1]? = some b) (h2 : s.data.toList[pos + 2]? = some d) : Utf8.decode s pos = (c.toNat, 3) := by
  have hl : pos + 2 < s.size := by
    have := (List.getElem?_eq_some_iff.1 h2).1
    simpa using this
  have g : ∀ i x, s.data.toList[i]? = some x → s.get! i = x := fun i x hx => by
    rw [Array.getElem?_toList] at hx
    show s.data[i]! = x
    rw [getElem!_def, hx]
  rw [Lib.decode_at, g _ _ h0, g _ _ h1, g _ _ h2]
  unfold three at h
  unfold Lib.decodeN
  rw [if_neg (by omega), if_neg (by omega), if_pos (by omega), if_pos (by omega)]
  congr 1
  omega

theorem runes_back (s : ByteArray) : ∀ (cs : List Int) (pre : List UInt8) (fuel : Nat) (acc : Array Value), (∀ c ∈ cs, three c) → s.data.toList = pre ++ cs.flatMap Lib.encodeRune → cs.length ≤ fuel →
    Conv.runesFrom s fuel pre.length acc = acc ++ (cs.map fun c => Value.int .i32 c).toArray := by
  intro cs
  induction cs with
  | nil =>
    intro pre fuel acc _ hs _
    have hsz : s.size = pre.length := by
      have : s.data.toList.length = pre.length := by rw [hs]; simp
      simpa using this
    cases fuel with
    | zero => simp [Conv.runesFrom]
    | succ f => unfold Conv.runesFrom; rw [if_neg (by omega)]; simp
  | cons c r ih =>
    intro pre fuel acc h3 hs hf
    obtain ⟨a, b, d, he, ha, hb, hd⟩ := enc_three (h3 c (by simp))
    have hs2 : s.data.toList = pre ++ [a, b, d] ++ r.flatMap Lib.encodeRune := by rw [hs, List.flatMap_cons, he]; simp
    have q : ∀ i, i < 3 → s.data.toList[pre.length + i]? = [a, b, d][i]? := fun i hi => by
      rw [hs2, List.append_assoc, List.getElem?_append_right (by omega), show pre.length + i - pre.length = i by omega, List.getElem?_append_left (by simpa using hi)]
    have hdec := dec_three s pre.length c (h3 c (by simp)) a b d ha hb hd (q 0 (by omega)) (q 1 (by omega)) (q 2 (by omega))
    have hsz : pre.length < s.size := by
      have : s.data.toList.length = s.size := by simp
      rw [← this, hs2, List.length_append, List.length_append, show ([a, b, d] : List UInt8).length = 3 from rfl]; omega
    cases fuel with
    | zero => simp at hf
    | succ f =>
      unfold Conv.runesFrom
      rw [if_pos hsz, hdec]
      have := ih (pre ++ [a, b, d]) f (acc.push (.int .i32 (Int.ofNat c.toNat))) (fun x hx => h3 x (by simp [hx])) hs2 (by simpa using hf)
      rw [List.length_append, show ([a, b, d] : List UInt8).length = 3 from rfl] at this
      simp only []
      rw [this]
      have hc : Int.ofNat c.toNat = c := by
        have := h3 c (by simp)
        unfold three at this
        exact Int.toNat_of_nonneg (by omega)
      rw [hc]
      simp

/-- The characters of a text. -/
def liveChars : List El → List Int
  | [] => []
  | e :: r => if e.dead then liveChars r else e.char :: liveChars r

theorem text_chars (es : List El) : textBytes es = (liveChars es).flatMap Lib.encodeRune := by
  induction es with
  | nil => rfl
  | cons e r ih => unfold textBytes liveChars; split <;> simp [ih]

/-- A list of characters that a call owns. -/
def RunesAt (w : World) (v : Value) (l : List Int) : Prop := w.ownsRow 0 21 1 v l.length (l.map fun c => Value.int .i32 c)

set_option maxHeartbeats 1000000 in
theorem letters_any (cs : List Int) (w : World) (h3 : ∀ c ∈ cs, three c) (hn : cs.length ≤ 4294967296) :
    Calls Try.prog 21 #[.string ⟨(cs.flatMap Lib.encodeRune).toArray⟩] w fun e' w' => ∃ v, e' = .returned v ∧ RunesAt w' v cs ∧ Kept (fun _ => False) w w' ∧ (∀ k, v.ownBlock = some k → w.heap.size ≤ k) := by
  obtain ⟨i0, hi0, hz0, hzs, hzb⟩ := info_parts info_i32
  obtain ⟨S, hS⟩ : ∃ S : ByteArray, (⟨(cs.flatMap Lib.encodeRune).toArray⟩ : ByteArray) = S := ⟨_, rfl⟩
  have hsd : S.data.toList = [] ++ cs.flatMap Lib.encodeRune := by rw [← hS]; simp
  have hlen : cs.length ≤ S.size := by
    have : S.size = (cs.flatMap Lib.encodeRune).length := by rw [← hS]; simp [ByteArray.size]
    rw [this]
    clear hS hsd this hn
    induction cs with
    | nil => simp
    | cons c r ih =>
      obtain ⟨a, b, d, he, _⟩ := enc_three (h3 c (by simp))
      rw [List.flatMap_cons, he]
      have := ih (fun x hx => h3 x (by simp [hx]))
      rw [List.length_append, List.length_cons, show ([a, b, d] : List UInt8).length = 3 from rfl]; omega
  have hrun := runes_back S cs [] S.size #[] h3 hsd hlen
  simp only [List.length_nil, Array.empty_append] at hrun
  have hsz : (Conv.runesFrom S S.size 0 #[]).size = cs.length := by rw [hrun]; simp
  have hcv : ∀ W : World, (convert 9 28 (.string S)).run Try.prog W = .ok (.slice (some ⟨W.heap.size, 0, none⟩) cs.length (grownCap W cs.length 0 21)) (W.drew.alloc (.cells ((cs.map fun c => Value.int .i32 c).toArray ++ Array.replicate (grownCap W cs.length 0 21 - cs.length) (.int .i32 0)) 21)) := fun W => by
    have := run_runes_of_string W 9 28 21 S Try.underlying9 Try.underlying28 Try.underlying21 (by rw [hsz]; omega)
    rw [hsz, hrun] at this
    exact this
  obtain ⟨G, hG⟩ : ∃ G, grownCap w cs.length 0 21 = G := ⟨_, rfl⟩
  obtain ⟨W1, hW1⟩ : ∃ W1, W1 = w.drew.alloc (.cells ((cs.map fun c => Value.int .i32 c).toArray ++ Array.replicate (G - cs.length) (.int .i32 0)) 21) := ⟨_, rfl⟩
  have hb1 : W1.heap[w.heap.size]? = some (.cells ((cs.map fun c => Value.int .i32 c).toArray ++ Array.replicate (G - cs.length) (.int .i32 0)) 21 (0, 0)) := by rw [hW1]; exact heap_alloc_new w.drew _
  have hk1 : Kept (fun _ => False) w W1 := by rw [hW1]; exact ((Kept.refl _ w).drew).alloc _
  have hsrc : Src Try.prog 1 28 (.slice (some ⟨w.heap.size, 0, none⟩) cs.length G) cs.length (cs.map fun c => Value.int .i32 c) W1 :=
    Src.ofSlice W1 Try.underlying28 ⟨w.heap.size, 0, none⟩ cs.length G _ (by simp) (fun j u hj => by
      have hjl : j < cs.length := by have := (List.getElem?_eq_some_iff.1 hj).1; simpa using this
      rw [Addr.add_lit, Nat.zero_add, Lib.cell_of_heap hb1, Array.getElem?_append_left (by simpa using hjl)]
      simpa using hj) (fun u hu => by simp only [List.mem_map] at hu; obtain ⟨c, _, rfl⟩ := hu; rfl)
  obtain ⟨v', w2, hr, hown', hkp, hblk⟩ := append_any Try.prog W1 28 28 21 i0 _ 1 4 Try.underlying28 hi0 hz0 hzs hzb rfl (by decide) (.slice none 0 0) 0 [] (World.ownsRow_nil _ _ _ _) _ cs.length _ hsrc (by unfold maxLen; omega) (by omega)
  have X : Hid (RunesAt w2 v' cs) := by
    show w2.ownsRow 0 21 1 v' cs.length _
    simpa using hown'
  have Y : Hid (Kept (fun _ => False) w w2) := hk1.trans hkp (fun i hi h => by simp [Value.ownBlock] at h)
  have Z : Hid (∀ k, v'.ownBlock = some k → w.heap.size ≤ k) := fun k hk => by
    rcases hblk k hk with h | h
    · simp [Value.ownBlock] at h
    · exact Nat.le_trans hk1.size h
  have HW1 : Hid _ := hW1
  have hcw := hcv w
  rw [hG, ← hW1] at hcw
  rw [hS]
  clear hcv hG hW1 hown' hkp hblk hsrc hb1 hk1 hrun hsz hsd hS hlen hi0 hz0 hzs hzb
  go_enter Try.func21, Try.ntmps21
  go_wp2_with (at_builtin; refine Lib.wpList_append_run _ rfl _ _ _ _ rfl _ _ rfl rfl _ _ (hr _) ?_)
  go_ret
  exact ⟨_, rfl, X.out, Y.out, Z.out⟩

end Go.Proofs.Ytgfafbanahiigaa
