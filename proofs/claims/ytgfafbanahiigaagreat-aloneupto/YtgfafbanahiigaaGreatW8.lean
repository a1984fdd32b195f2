import Derived.Test.YtgfafbanahiigaaGreatWB
import Derived.Laws.IdiomStrings
set_option linter.unusedVariables false
set_option linter.unusedSimpArgs false
namespace Go.Proofs.YtgfafbanahiigaaGreat
open Go.RowKit Go.Chorus
structure PSt (w wr : World) (v : Value) (l : List UInt8) (box : Array Value) : Prop where
 bytes : BytesAt wr v l
 own : ∀ k, v.ownBlock = some k → w.heap.size ≤ k
 kept : Kept (fun _ => False) w wr
 box : wr.heap[w.heap.size]? = some (.cells box 115 (0, 0))
theorem PSt.step {w wr w' : World} {v v' : Value} {l l' : List UInt8} {box : Array Value} (h : PSt w wr v l box) (hb : BytesAt w' v' l') (hk : Kept (fun k => v.ownBlock = some k) wr w') (hn : ∀ k, v'.ownBlock = some k → v.ownBlock = some k ∨ wr.heap.size ≤ k) : PSt w w' v' l' box where
 bytes := hb
 own := fun k hk => by
  rcases hn k hk with h1 | h1
  ·exact h.own k h1
  ·exact Nat.le_trans h.kept.size h1
 kept := h.kept.trans hk (fun i hi hs => by have := h.own i hs; omega)
 box := hk.heap h.box (fun e => own_ne h.bytes h.box (by decide) e)
theorem PSt.quiet {w wr w' : World} {v : Value} {l : List UInt8} {box : Array Value} (h : PSt w wr v l box) (hk : Kept (fun _ => False) wr w') : PSt w w' v l box where
 bytes := ownsRow_kept h.bytes hk (fun _ _ h => h)
 own := h.own
 kept := h.kept.trans' hk
 box := hk.heap h.box (fun h => h)
theorem PSt.cells {w wr : World} {v : Value} {l : List UInt8} {a0 a1 a2 a3 a4 a5 a6 a7 : Value} (h : PSt w wr v l #[a0, a1, a2, a3, a4, a5, a6, a7]) :
  wr.cell? ⟨w.heap.size, 0, none⟩ = some a0 ∧ wr.cell? ⟨w.heap.size, 3, none⟩ = some a3 ∧ wr.cell? ⟨w.heap.size, 4, none⟩ = some a4 ∧ wr.cell? ⟨w.heap.size, 5, none⟩ = some a5 ∧ wr.cell? ⟨w.heap.size, 6, none⟩ = some a6 ∧ wr.cell? ⟨w.heap.size, 7, none⟩ = some a7 := by
 refine ⟨?_, ?_, ?_, ?_, ?_, ?_⟩ <;> (rw [Lib.cell_of_heap h.box]; rfl)
theorem PSt.one {w wr : World} {v : Value} {l : List UInt8} {box : Array Value} (h : PSt w wr v l box) (n : Nat) (hn : n < 256) (hl : l.length ≤ 4294967296) :
  ∃ v' w', (∀ ty, (Builtin.append_ #[89, 89] ty #[v, .slice (some ⟨wr.heap.size, 0, none⟩) 1 1]).run Tryz.prog (wr.alloc (.cells #[.int .u8 (n : Int)] 5)) = .ok v' w') ∧ PSt w w' v' (l ++ [UInt8.ofNat n]) box := by
 obtain ⟨i0, hi0, hz0, hzs, hzb⟩ := info_parts info_u8
 have h' : PSt w (wr.alloc (.cells #[.int .u8 (n : Int)] 5)) v l box := h.quiet ((Kept.refl _ wr).alloc _)
 have hnb : (wr.alloc (.cells #[.int .u8 (n : Int)] 5)).heap[wr.heap.size]? = some (.cells #[.int .u8 (n : Int)] 5 (0, 0)) := heap_alloc_new wr _
 obtain ⟨v', w1, hr, hown', hkp, hblk⟩ := append_strong Tryz.prog _ 89 89 5 i0 _ 1 1 Tryz.underlying89 hi0 hz0 hzs hzb rfl (by decide) v l.length (Lib.byteCells l) h'.bytes (.slice (some ⟨wr.heap.size, 0, none⟩) 1 1) 1 (Lib.byteCells [UInt8.ofNat n])
  (Src.ofSlice _ Tryz.underlying89 ⟨wr.heap.size, 0, none⟩ 1 1 _ rfl (fun j u hj => by rw [Addr.add_lit, Lib.cell_of_heap hnb]; rw [byte_cell n hn] at hj; simpa using hj) (bytes_oneCell _)) (by decide) (by unfold maxLen; omega) (by omega)
 refine ⟨v', w1, hr, h'.step ?_ hkp hblk⟩
 show w1.ownsRow 0 5 1 v' (l ++ [UInt8.ofNat n]).length (Lib.byteCells (l ++ [UInt8.ofNat n]))
 rw [Go.Chorus.byteCells_append, List.length_append]; exact hown'
theorem PSt.str {w wr : World} {v : Value} {l : List UInt8} {box : Array Value} (h : PSt w wr v l box) (hl : l ≠ []) : (convert 89 9 v).run Tryz.prog wr = .ok (.string ⟨l.toArray⟩) wr := by
 obtain ⟨a, cp, rfl, hc⟩ := h.bytes.cells
 obtain ⟨g, rfl, hg⟩ := hc hl
 exact run_convert_bytes_back wr 89 9 5 ⟨g, 0, none⟩ cp l Tryz.underlying89 Tryz.underlying5 Tryz.underlying9 (fun j hj => by
   rw [Addr.add_lit, Nat.zero_add]; exact hg j _ (List.getElem?_eq_getElem hj))
theorem checkSum_bytes (v : Value) (l : List UInt8) (w : World) (h : BytesAt w v l) (hl : l.length ≤ 4294967296) :
  Calls Tryz.prog 73 #[v] w fun e' w' => e' = .returned (.int .u32 (sumFrom l 0 : Nat)) ∧ w' = w := by
 obtain ⟨a, cp, rfl, hc⟩ := h.cells
 exact checkSum_any a cp l w hc hl
set_option maxHeartbeats 2000000 in
set_option maxRecDepth 100000 in
theorem packet_any (kd p n c : Nat) (seen : List Nat) (bs scap : Nat) (tc tp ch : Nat) (w : World) (hkd : kd = 1 ∨ kd = 2) (hp : p < 256) (hn : n < 4294967296) (hc : c < 4294967296) (htc : tc < 4294967296) (htp : tp < 256) (hch : ch ≤ 1114111)
  (hsl : seen.length ≤ 8) (hsf : ∀ x ∈ seen, x < 4294967296) (hs : ∀ (i x : Nat), seen[i]? = some x → w.cell? ⟨bs, i, none⟩ = some (.int .u32 (x : Int))) :
  Calls Tryz.prog 55 #[.agg #[.int .u8 kd, .int .u8 p, .int .u32 n, .int .u32 c, .slice (some ⟨bs, 0, none⟩) seen.length scap, .int .u32 tc, .int .u8 tp, .int .i32 ch]] w fun e' w' =>
   e' = .returned (.string ⟨(packetOf kd p n c seen tc tp ch).toArray⟩) ∧ Kept (fun _ => False) w w' := by
 have hkd2 : kd < 256 := by omega
 have st0 : PSt w ((w.alloc (.cells #[.int .u8 kd, .int .u8 p, .int .u32 n, .int .u32 c, .slice (some ⟨bs, 0, none⟩) seen.length scap, .int .u32 tc, .int .u8 tp, .int .i32 ch] 115)).alloc (.cells #[.int .u8 kd, .int .u8 p] 5)) (.slice (some ⟨w.heap.size + 1, 0, none⟩) 2 2) [UInt8.ofNat kd, UInt8.ofNat p] #[.int .u8 kd, .int .u8 p, .int .u32 n, .int .u32 c, .slice (some ⟨bs, 0, none⟩) seen.length scap, .int .u32 tc, .int .u8 tp, .int .i32 ch] := by
  refine ⟨⟨rfl, Or.inr ⟨w.heap.size + 1, 2, #[.int .u8 kd, .int .u8 p], rfl, Nat.zero_le _, ?_, Nat.le_refl _, by unfold maxLen; omega, rfl, ?_⟩⟩, fun k hk => ?_, ((Kept.refl _ w).alloc _).alloc _, ?_⟩
  ·have := heap_alloc_new (w.alloc (.cells #[.int .u8 kd, .int .u8 p, .int .u32 n, .int .u32 c, .slice (some ⟨bs, 0, none⟩) seen.length scap, .int .u32 tc, .int .u8 tp, .int .i32 ch] 115)) (.cells #[.int .u8 kd, .int .u8 p] 5)
   simpa using this
  ·rw [two_cells kd p hkd2 hp]; rfl
  ·simp [Value.ownBlock] at hk; omega
  ·rw [Below.heap_alloc _ _ _ (by simp)]; exact heap_alloc_new w _
 go_enter Tryz.func55, Tryz.ntmps55
 go_wp2_with fail
 refine (appendFour_any _ _ n _ hn st0.bytes (by simp)).mono ?_
 rintro e1 w1 ⟨v1, rfl, b1, k1, n1⟩
 have st1 := st0.step b1 k1 n1
 obtain ⟨x0, x3, x4, x5, x6, x7⟩ := st1.cells
 clear b1 k1 n1 st0
 go_wp2_with fail
 refine (appendFour_any _ _ c _ hc st1.bytes (by simp [four])).mono ?_
 rintro e2 w2 ⟨v2, rfl, b2, k2, n2⟩
 have st2 := st1.step b2 k2 n2
 clear x0 x3 x4 x5 x6 x7 b2 k2 n2 st1
 obtain ⟨x0, x3, x4, x5, x6, x7⟩ := st2.cells
 obtain ⟨L0, hL0⟩ : ∃ L0, L0 = [UInt8.ofNat kd, UInt8.ofNat p] ++ four n ++ four c := ⟨_, rfl⟩
 have hL0l : L0.length = 10 := by rw [hL0]; rfl
 rw [← hL0] at st2
 have HL0 : Hid (L0 = [UInt8.ofNat kd, UInt8.ofNat p] ++ four n ++ four c) := hL0
 clear hL0
 go_wp2
 go_loopw [3, 22] (fun v i wr => ∃ k : Nat, k ≤ seen.length ∧ i = .int .i64 k ∧ PSt w wr v (L0 ++ fours (seen.take k)) #[.int .u8 kd, .int .u8 p, .int .u32 n, .int .u32 c, .slice (some ⟨bs, 0, none⟩) seen.length scap, .int .u32 tc, .int .u8 tp, .int .i32 ch]) (fun _ i _ => seen.length - (intOf i).toNat)
 case atStart => exact ⟨0, Nat.zero_le _, rfl, by simpa [fours] using st2⟩
 case round =>
  obtain ⟨k, hk, rfl, st⟩ := hrel
  have hfl := fours_length (seen.take k)
  have hfl2 : (seen.take k).length ≤ seen.length := List.length_take_le' k seen
  by_cases hlt : k < seen.length
  ·obtain ⟨x, hek⟩ : ∃ x, seen[k]? = some x := ⟨_, List.getElem?_eq_getElem hlt⟩
   have c0 : wr.cell? ⟨bs, k, none⟩ = some (.int .u32 (x : Int)) := st.kept.cell' (hs k x hek) (fun h => h)
   have hx := hsf x (List.mem_of_getElem? hek)
   have hft : Hid _ := fours_take seen k x hek
   clear hek hs
   go_wp2_with fail
   refine (appendFour_any _ _ x _ hx st.bytes (by rw [List.length_append]; omega)).mono ?_
   rintro e3 w3 ⟨v3, rfl, b3, k3, n3⟩
   have st3 := st.step b3 k3 n3
   clear b3 k3 n3
   go_wp2
   go_roundw
   case rel => exact ⟨k + 1, by omega, by go_num, by rw [hft.out, ← List.append_assoc]; exact st3⟩
   case measure => simp [intOf]; omega
  ·have hke : k = seen.length := by omega
   subst hke
   rw [List.take_length] at st hfl
   clear x0 x3 x4 x5 x6 x7 hs hsf
   obtain ⟨x0, x3, x4, x5, x6, x7⟩ := st.cells
   go_wp2_with fail
   refine (appendFour_any _ _ tc _ htc st.bytes (by rw [List.length_append]; omega)).mono ?_
   rintro e4 w4 ⟨v4, rfl, b4, k4, n4⟩
   have st4 := st.step b4 k4 n4
   clear x0 x3 x4 x5 x6 x7 b4 k4 n4 st
   obtain ⟨x0, x3, x4, x5, x6, x7⟩ := st4.cells
   obtain ⟨v5, w5, hr5, st5⟩ := st4.one tp htp (by simp [four]; omega)
   obtain ⟨y0, y3, y4, y5, y6, y7⟩ := st5.cells
   have hl5 : (L0 ++ fours seen ++ four tc ++ [UInt8.ofNat tp]).length ≤ 100 := by simp [four]; omega
   clear st4 hfl hfl2 hk hlt st2
   go_wp2_with (at_builtin; refine Lib.wpList_append_run _ rfl _ _ _ _ rfl _ _ rfl rfl _ _ (hr5 _) ?_)
   ·have hk1 : Hid (kd = 1) := by
     show kd = 1
     have h : ((kd : Int) == 1) = true := by assumption
     have h2 : (kd : Int) = 1 := by simpa using h
     omega
    refine (appendFour_any _ _ ch _ (by omega) st5.bytes (by omega)).mono ?_
    rintro e6 w6 ⟨v6, rfl, b6, k6, n6⟩
    have st6 := st5.step b6 k6 n6
    have hP : Hid (L0 ++ fours seen ++ four tc ++ [UInt8.ofNat tp] ++ four ch = packetHead kd p n c seen tc tp ch) := by
     show _ = _; unfold packetHead; rw [HL0.out, if_pos hk1.out]
    rw [hP.out] at st6
    have hl6 : (packetHead kd p n c seen tc tp ch).length ≤ 104 := by rw [← hP.out, List.length_append]; simp only [four, List.length_cons, List.length_nil] at *; omega
    clear b6 k6 n6 st5 y0 y3 y4 y5 y6 y7 x0 x3 x4 x5 x6 x7 hr5 hl5 hP
    obtain ⟨L, hL⟩ : ∃ L, L = packetHead kd p n c seen tc tp ch := ⟨_, rfl⟩
    have HP : Hid (packetOf kd p n c seen tc tp ch = L ++ four (sumFrom L 0)) := by rw [hL]; exact rfl
    rw [← hL] at st6 hl6
    clear hL
    have hsl := sumFrom_lt L 0 (by decide)
    go_wp2_with fail
    refine (checkSum_bytes _ _ _ st6.bytes (by omega)).mono ?_
    rintro e7 w7 ⟨rfl, rfl⟩
    go_wp2_with fail
    refine (appendFour_any _ _ _ _ hsl st6.bytes (by omega)).mono ?_
    rintro e8 w8 ⟨v8, rfl, b8, k8, n8⟩
    have st8 := st6.step b8 k8 n8
    have hstr := st8.str (by simp [four])
    clear b8 k8 n8 st6
    go_wp2
    go_ret
    exact ⟨ret_str (by rw [HP.out]), st8.kept⟩
   ·have hk1 : Hid (¬ kd = 1) := by
     show ¬ kd = 1
     have h : ((kd : Int) == 1) = false := by assumption
     have h2 : ¬ (kd : Int) = 1 := by simpa using h
     omega
    have st6 := st5
    have hP : Hid (L0 ++ fours seen ++ four tc ++ [UInt8.ofNat tp] = packetHead kd p n c seen tc tp ch) := by
     show _ = _; unfold packetHead; rw [HL0.out, if_neg hk1.out, List.append_nil]
    rw [hP.out] at st6 hl5
    clear st5 y0 y3 y4 y5 y6 y7 x0 x3 x4 x5 x6 x7 hr5 hP
    obtain ⟨L, hL⟩ : ∃ L, L = packetHead kd p n c seen tc tp ch := ⟨_, rfl⟩
    have HP : Hid (packetOf kd p n c seen tc tp ch = L ++ four (sumFrom L 0)) := by rw [hL]; exact rfl
    rw [← hL] at st6 hl5
    clear hL
    have hsl := sumFrom_lt L 0 (by decide)
    refine (checkSum_bytes _ _ _ st6.bytes (by omega)).mono ?_
    rintro e7 w7 ⟨rfl, rfl⟩
    go_wp2_with fail
    refine (appendFour_any _ _ _ _ hsl st6.bytes (by omega)).mono ?_
    rintro e8 w8 ⟨v8, rfl, b8, k8, n8⟩
    have st8 := st6.step b8 k8 n8
    have hstr := st8.str (by simp [four])
    clear b8 k8 n8 st6
    go_wp2
    go_ret
    exact ⟨ret_str (by rw [HP.out]), st8.kept⟩
end Go.Proofs.YtgfafbanahiigaaGreat
