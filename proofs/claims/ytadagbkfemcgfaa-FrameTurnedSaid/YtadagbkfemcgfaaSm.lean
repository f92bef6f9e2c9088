/-
  Own work. The contract of sha's Sum.
-/
import Derived.Test.YtadagbkfemcgfaaWr
import Derived.Test.YtadagbkfemcgfaaNw
import Derived.Test.YtadagbkfemcgfaaPad
namespace Go.Proofs.Ytadagbkfemcgfaa
open Go.RowKit
set_option linter.unusedVariables false
set_option linter.unusedSimpArgs false

/-- What Sum holds: the answer's place, the last block, the state. -/
def SumR (w wr : World) (S : Nat) (B : List UInt8) (s : List Nat) : Prop :=
  Bw wr w.heap.size 23 (zer 32) ∧ Bw wr (w.heap.size + 1) 154 B ∧ Ww wr S 151 s ∧ w.heap.size + 1 < S ∧ Below w.heap.size w wr
theorem SumR.below {w wr wr' : World} {S : Nat} {B : List UInt8} {s : List Nat} (h : SumR w wr S B s) (hb : Below wr.heap.size wr wr') : SumR w wr' S B s := by
  obtain ⟨h0, h1, h2, h3, h4⟩ := h
  exact ⟨h0.below hb h0.lt, h1.below hb h1.lt, h2.below hb h2.lt, h3, h4.trans (hb.mono h4.size)⟩
theorem SumR.put {w wr : World} {S : Nat} {B : List UInt8} {s : List Nat} (h : SumR w wr S B s) {i : Nat} {x : UInt8} {y : Int} (hy : y = (x.toNat : Int)) : SumR w (wr.setCell ⟨w.heap.size + 1, i, none⟩ (.int .u8 y)) S (B.set i x) s := by
  obtain ⟨h0, h1, h2, h3, h4⟩ := h
  exact ⟨h0.far (show w.heap.size ≠ w.heap.size + 1 by omega) _, h1.set_ hy, h2.far (show S ≠ w.heap.size + 1 by omega) _, h3, h4.setCell (p := ⟨w.heap.size + 1, i, none⟩) (show w.heap.size ≤ w.heap.size + 1 by omega) _⟩
theorem SumR.putS {w wr : World} {S : Nat} {B : List UInt8} {s s' : List Nat} (h : SumR w wr S B s) : SumR w (wr.setRow S (wordsW s')) S B s' := by
  obtain ⟨h0, h1, h2, h3, h4⟩ := h
  exact ⟨h0.rowFar (by omega) _, h1.rowFar (by omega) _, h2.row, h3, below_setRow h4 (by omega) _⟩
theorem SumR.putB {w wr : World} {S : Nat} {B B' : List UInt8} {s : List Nat} (h : SumR w wr S B s) : SumR w (wr.setRow (w.heap.size + 1) (cellsB B').toArray) S B' s := by
  obtain ⟨h0, h1, h2, h3, h4⟩ := h
  exact ⟨h0.rowFar (by omega) _, h1.row, h2.rowFar (by omega) _, h3, below_setRow h4 (by omega) _⟩
def RetID (w : World) (l : List UInt8) (e : Ending) (w' : World) : Prop := e = .returned (.agg (cellsB l).toArray) ∧ Below w.heap.size w w'

theorem builtBlk : Try.prog.built 154 [] = some (cellsB (zer 64)).toArray := by kernel_rfl
theorem cellsB_splice (a b : List UInt8) (o : Nat) : splice (cellsB a) o (cellsB b) = cellsB (splice a o b) := by
  unfold splice cellsB
  simp [List.map_take, List.map_drop]

set_option maxRecDepth 100000 in
set_option maxHeartbeats 400000 in
theorem sum_any (g : Nat) (D : List UInt8) (w : World) (h : HashD w g D) (hlen : D.length ≤ 4294967296) :
    Calls Try.prog 88 #[.pointer (some ⟨g, 0, none⟩)] w (RetID w (sumS D)) := by
  have hg := h.lt
  have hd1 : HashD (w.alloc (.cells (cellsB (zer 32)).toArray 23)) g D := h.below ((Below.refl _ _).alloc (Nat.le_refl _) _) hg
  obtain ⟨b, h1, h2⟩ := hd1
  have CN := isNone_live g D.length _ b _ h1 (by omega) (HashD.live (w := w) (g := g))
  have h3 : HashW ((w.alloc (.cells (cellsB (zer 32)).toArray 23)).alloc (.cells (cellsB (zer 64)).toArray 154)) g (mixN D (D.length / 64)) b D.length := h1.kept (Below.heap_alloc _ _ _ h1.lt)
  have c72 := cell_of_row _ g 72 _ 156 (0, 0) h3.1
  rw [List.getElem?_toArray, hashV_size _ _ _ h3.2.1 h3.2.2.2] at c72
  obtain ⟨N, hN⟩ : ∃ N, D.length = N := ⟨_, rfl⟩
  obtain ⟨x, hx⟩ : ∃ x, N % 64 = x := ⟨_, rfl⟩
  have hxT : ((N : Int).tmod 64) = (x : Int) := by rw [Int.tmod_eq_emod_of_nonneg (by omega)]; omega
  have hxl : (x : Int) ≤ 64 := by omega
  have hx64 : x < 64 := by omega
  have hne : ¬ (64 = x) := by omega
  have hN2 : N ≤ 4294967296 := by omega
  rw [hN] at c72
  have H1 := Lib.hid h1
  have H2 := Lib.hid h2
  have H3 := Lib.hid h3
  have HN := Lib.hid hN
  have HX := Lib.hid hx
  have hsz8 : (Try.prog.info? 5).map (·.size) = some 1 := by kernel_rfl
  clear h1 h2 h3 hN hx hlen h
  go_enter Try.func88, Try.ntmps88
  go_wp2_with (go_at_call 103; refine CN.mono ?_; rintro e w1 ⟨rfl, rfl⟩)
  generalize hW1 : World.alloc (World.alloc _ _) _ = W1
  have B1 : Below w.heap.size w W1 := by rw [← hW1]; exact ((Below.refl _ _).alloc (Nat.le_refl _) _).alloc (by simp) _
  have R0 : Bw W1 w.heap.size 23 (zer 32) := by rw [← hW1]; exact (Bw.new w _ _).alloc _
  have R1 : Bw W1 (w.heap.size + 1) 154 (zer 64) := by
    have e : (w.alloc (.cells (cellsB (zer 32)).toArray 23)).heap.size = w.heap.size + 1 := by simp
    rw [← hW1, ← e]
    exact Bw.new (w.alloc (.cells (cellsB (zer 32)).toArray 23)) (zer 64) 154
  have HH : HashW W1 g (mixN D (D.length / 64)) b D.length := by rw [← hW1]; exact H3.out
  have C72 : W1.cell? ⟨g, 72, none⟩ = some (.int .u64 (N : Int)) := by rw [← hW1]; exact c72
  have hbl := HH.2.2.2
  have hRl : (b.take x).length = x := by rw [List.length_take]; omega
  have hRD : b.take x = D.drop (64 * (D.length / 64)) := by rw [← HX.out, ← HN.out]; exact H2.out
  have hcsl : (cellsB (b.take x)).length = x := by rw [cellsB_length]; exact hRl
  have hcsrc : ∀ j v, (cellsB (b.take x))[j]? = some v → W1.cell? ((⟨g, 8, none⟩ : Addr).add j) = some v := by
    intro j v hv
    obtain ⟨y, hy, rfl⟩ := cellsB_at hv
    rw [Addr.add_lit, cell_of_row _ g (8 + j) _ 156 (0, 0) HH.1, List.getElem?_toArray]
    refine hashV_at _ b _ j y HH.2.1 ?_
    rw [List.getElem?_take] at hy
    split at hy
    · exact hy
    · cases hy
  have hmn : x = Nat.min x 64 := (Nat.min_eq_left (by omega)).symm
  have hfit : 0 + x ≤ (cellsB (zer 64)).length := by rw [cellsB_length, zer_len]; omega
  have h1c := cellsB_one (b.take x)
  have hsp := cellsB_splice (zer 64) (b.take x) 0
  obtain ⟨R, hR⟩ : ∃ R, b.take x = R := ⟨_, rfl⟩
  rw [hR] at hRl hRD hcsl hcsrc h1c hsp
  obtain ⟨st, hst⟩ : ∃ st, mixN D (D.length / 64) = st := ⟨_, rfl⟩
  rw [hst, HN.out] at HH
  obtain ⟨X, hX⟩ : ∃ X, cellsB R = X := ⟨_, rfl⟩
  rw [hX] at hcsl hcsrc h1c hsp
  have hfin1 : x < 56 → outB (comp st (lenN (lastB R) (N * 8) 8)) = sumS D := by
    intro hlt
    have := sum1 D (by rw [HN.out, HX.out]; exact hlt)
    rw [hst, ← hRD, HN.out] at this
    exact this
  have hfin2 : 56 ≤ x → outB (comp (comp st (lastB R)) (lenN (zer 64) (N * 8) 8)) = sumS D := by
    intro hge
    have := sum2 D (by rw [HN.out, HX.out]; exact hge)
    rw [hst, ← hRD, HN.out] at this
    exact this
  have BB1 := Lib.hid B1
  have RR0 := Lib.hid R0
  have RR1 := Lib.hid R1
  have HHH := Lib.hid HH
  have HRL := Lib.hid hRl
  have HCL := Lib.hid hcsl
  have HCS := Lib.hid hcsrc
  have HMN := Lib.hid hmn
  have HF := Lib.hid hfit
  have H1C := Lib.hid h1c
  have HSP := Lib.hid hsp
  have HF1 := Lib.hid hfin1
  have HF2 := Lib.hid hfin2
  have HG := Lib.hid hg
  clear B1 R0 R1 HH hRl hRD hcsl hcsrc hmn hfit h1c hsp hfin1 hfin2 hg hW1 c72 hst hX hR hbl CN
  have hxi : (x : Int) < 64 := by omega
  go_region_law (refine step_copy_row' rfl (.tmp 11) (.tmp 20) 24 24 rfl 5 Try.underlying24 hsz8 _ _ _ _ _ _ rfl rfl (w.heap.size + 1) 0 (cellsB (zer 64)) 154 RR1.out X x HCL.out HMN.out (fun _ => ⟨rfl, _, rfl, HCS.out⟩) HF.out H1C.out ?_; intro w2 HG2 hb2)
  have hb2' : W1.grownBy w2 (some (w.heap.size + 1)) := (grown_drew W1 _).trans hb2
  have R2 : Bw w2 (w.heap.size + 1) 154 (splice (zer 64) 0 R) := by
    unfold Bw
    rw [← HSP.out]
    exact HG2.out
  have R20 : Bw w2 w.heap.size 23 (zer 32) := (hb2'.block _ RR0.out.lt (by simp)).trans RR0.out
  have H20 : HashW w2 g st b N := HHH.out.kept (hb2'.block _ HHH.out.lt (by have := HG.out; intro e; injection e; omega))
  have B2 : Below w.heap.size w w2 := BB1.out.trans ⟨hb2'.os, hb2'.tape, hb2'.output, hb2'.size, fun k hk => hb2'.block k (Nat.lt_of_lt_of_le hk BB1.out.size) (by intro e; injection e; omega)⟩
  have hspl : (splice (zer 64) 0 R).length = 64 := by rw [splice_len _ _ _ (by rw [zer_len, HRL.out]; omega)]; exact zer_len 64
  obtain ⟨z, hz, _⟩ := byte_at (splice (zer 64) 0 R) x (by omega)
  have c2 := R2.cell hz
  have f2 := R2.frozen x
  have RR2 := Lib.hid R2
  have RR20 := Lib.hid R20
  have HH20 := Lib.hid H20
  have BB2 := Lib.hid B2
  clear R2 R20 H20 B2 hspl hz hb2 hb2' HG2
  go_upto_region 6 with fail
  generalize hw3 : World.setCell _ _ _ = w3
  have R3 : Bw w3 (w.heap.size + 1) 154 (lastB R) := by
    rw [← hw3, ← last_of b R x HRL.out hx64]
    exact RR2.out.set_ (x := 128) rfl
  have R30 : Bw w3 w.heap.size 23 (zer 32) := by rw [← hw3]; exact RR20.out.far (show w.heap.size ≠ w.heap.size + 1 by omega) _
  have H30 : HashW w3 g st b N := by rw [← hw3]; exact HH20.out.kept (heap_setCell_other w2 ⟨w.heap.size + 1, x, none⟩ g _ (show g ≠ w.heap.size + 1 by have := HG.out; omega))
  have B3 : Below w.heap.size w w3 := by rw [← hw3]; exact BB2.out.setCell (p := ⟨w.heap.size + 1, x, none⟩) (show w.heap.size ≤ w.heap.size + 1 by omega) _
  have hs8 := H30.2.1
  have ss := H30.2.2.1
  have hls := load_state hs8 H30.1
  have iv : (Try.prog.info? 151).map (·.size) = some (wordsW st).size := by rw [wordsW_size, hs8]; exact infoState
  have c72 := cell_of_row w3 g 72 _ 156 (0, 0) H30.1
  rw [List.getElem?_toArray, hashV_size _ _ _ H30.2.1 H30.2.2.2] at c72
  have HLS := Lib.hid hls
  have IV := Lib.hid iv
  have HS8 := Lib.hid hs8
  have HSS := Lib.hid ss
  have RR3 := Lib.hid R3
  have RR30 := Lib.hid R30
  have HH30 := Lib.hid H30
  have BB3 := Lib.hid B3
  clear hw3 R3 R30 H30 B3 hs8 ss hls iv RR2 RR20 HH20 BB2 c2 f2 c72 C72
  go_upto_region 7 with (first
    | (refine wpList_load_rowG rfl 151 (.tmp 26) rfl g rfl (.agg (wordsW st)) HLS.out ?_)
    | (refine wpList_store_row rfl 151 (.tmp 5) (.tmp 27) rfl w3.heap.size (wordsW st) rfl rfl 151 _ (heap_alloc_new w3 _) IV.out (by rw [wordsW_size, HS8.out]; rfl) (wordsW_one _) ?_))
  generalize hw4 : World.setRow _ _ _ = w4
  have S4 : SumR w w4 w3.heap.size (lastB R) st := by
    rw [← hw4]
    exact ⟨(RR30.out.alloc _).rowFar (by have := RR30.out.lt; omega) _, (RR3.out.alloc _).rowFar (by have := RR3.out.lt; omega) _, setRow_heap _ _ _ _ 151 _ (heap_alloc_new w3 _), RR3.out.lt, below_setRow (BB3.out.alloc BB3.out.size _) BB3.out.size _⟩
  have H40 : HashW w4 g st b N := by
    rw [← hw4]
    exact HH30.out.kept ((setRow_other _ _ _ _ (by have := HH30.out.lt; omega)).trans (Below.heap_alloc _ _ _ HH30.out.lt))
  have hlR : (lastB R).length = 64 := lastB_len R (by rw [HRL.out]; exact hx64)
  obtain ⟨S, hS⟩ : ∃ S, w3.heap.size = S := ⟨_, rfl⟩
  rw [hS] at S4
  have SS4 := Lib.hid S4
  have HH4 := Lib.hid H40
  have HLR := Lib.hid hlR
  rw [hS]
  clear hw4 hS S4 H40 hlR RR3 RR30 HH30 BB3 HLS
  by_cases h56 : 56 ≤ x
  · have HFin : Hid (outB (comp (comp st (lastB R)) (lenN (zer 64) (N * 8) 8)) = sumS D) := Lib.hid (HF2.out h56)
    have HB0 : Hid ((zer 64).length = 64) := Lib.hid (zer_len 64)
    have HS80 : Hid ((comp st (lastB R)).length = 8) := Lib.hid (comp_len _ _ HS8.out)
    have HSS0 : Hid (Small (comp st (lastB R))) := Lib.hid (comp_small _ _ HSS.out)
    have h1 := SS4.out.2.1
    have h2 := SS4.out.2.2.1
    have hivb : (Try.prog.info? 154).map (·.size) = some (cellsB (lastB R)).toArray.size := by rw [cellsB_size, HLR.out]; exact infoBlock
    have hivz : (Try.prog.info? 154).map (·.size) = some (cellsB (zer 64)).toArray.size := by rw [cellsB_size, zer_len]; exact infoBlock
    have hivs : (Try.prog.info? 151).map (·.size) = some (wordsW (comp st (lastB R))).size := by rw [wordsW_size, HS80.out]; exact infoState
    have hzs : (wordsW st).size = (wordsW (comp st (lastB R))).size := by rw [wordsW_size, wordsW_size, HS80.out, HS8.out]
    have hzb : (cellsB (lastB R)).toArray.size = (cellsB (zer 64)).toArray.size := by rw [cellsB_size, cellsB_size, HLR.out, zer_len]
    have H1 := Lib.hid h1
    have H2 := Lib.hid h2
    have HIB := Lib.hid hivb
    have HIZ := Lib.hid hivz
    have HIS := Lib.hid hivs
    have HZS := Lib.hid hzs
    have HZB := Lib.hid hzb
    clear h1 h2 hivb hivz hivs hzs hzb
    go_upto_region 10 with (first
      | (refine wpList_load_row rfl 151 (.tmp 5) rfl S rfl 151 (wordsW st) (0, 0) _ H2.out Try.underlying151 rfl IV.out ?_)
      | (refine wpList_load_row rfl 154 (.tmp 3) rfl (w.heap.size + 1) rfl 154 (cellsB (lastB R)).toArray (0, 0) _ H1.out Try.underlying154 rfl HIB.out ?_)
      | (go_at_call 104; refine (mix_any st (lastB R) _ HS8.out HSS.out HLR.out).mono ?_; rintro e w7 ⟨rfl, hb7⟩
         have R7 := SS4.out.below hb7
         have H7 : HashW w7 g st b N := HH4.out.kept (hb7.block _ HH4.out.lt)
         have R72 := Lib.hid R7.2.2.1
         have R7b := Lib.hid (Bw.rowFar R7.2.1 (show w.heap.size + 1 ≠ S by have := R7.2.2.2.1; omega) (wordsW (comp st (lastB R))))
         have RR7 := Lib.hid R7
         have HH7 := Lib.hid H7
         clear R7 hb7 H7)
      | (refine wpList_buildG rfl 154 rfl (cellsB (zer 64)).toArray builtBlk ?_)
      | (refine wpList_store_row rfl 151 (.tmp 5) (.tmp 32) rfl S (wordsW (comp st (lastB R))) rfl rfl 151 _ R72.out HIS.out HZS.out (wordsW_one _) ?_)
      | (refine wpList_store_row rfl 154 (.tmp 3) (.tmp 33) rfl (w.heap.size + 1) (cellsB (zer 64)).toArray rfl rfl 154 _ R7b.out HIZ.out HZB.out (cellsB_ones _) ?_))
    generalize hw5 : World.setRow (World.setRow _ _ _) _ _ = w5
    have S5 : SumR w w5 S (zer 64) (comp st (lastB R)) := by rw [← hw5]; exact RR7.out.putS.putB
    have H5 : HashW w5 g st b N := by
      rw [← hw5]
      exact HH7.out.kept ((setRow_other _ _ _ _ (by have := HG.out; omega)).trans (setRow_other _ _ _ _ (by have := HG.out; have := RR7.out.2.2.2.1; omega)))
    generalize comp st (lastB R) = s0 at *
    generalize hB0 : zer 64 = B0 at HFin HB0 S5
    have SS5 := Lib.hid S5
    have HH5 := Lib.hid H5
    clear S5 H5 hw5 hB0 H1 H2 HIB HIZ HIS HZS HZB R72 R7b RR7 HH7
    have c72 := cell_of_row w5 g 72 _ 156 (0, 0) HH5.out.1
    rw [List.getElem?_toArray, hashV_size _ _ _ HH5.out.2.1 HH5.out.2.2.2] at c72
    go_wp2_with fail
    go_loopw [39] (fun i wr => ∃ j : Nat, j ≤ 8 ∧ i = .int .i64 (j : Int) ∧ SumR w wr S (lenN B0 (N * 8) j) s0) (fun i _ => 8 - (intOf i).toNat)
    case atStart => exact ⟨0, by omega, rfl, by rw [lenN_zero]; exact SS5.out⟩
    case round =>
      obtain ⟨j, hj, rfl, hR⟩ := hrel
      by_cases hlt : j < 8
      · obtain ⟨z, hz, _⟩ := byte_at (lenN B0 (N * 8) j) (56 + j) (by rw [lenN_len _ _ _ HB0.out hj]; omega)
        have c5 := hR.2.1.cell hz
        have f5 := hR.2.1.frozen (56 + j)
        have HR := Lib.hid hR
        have g4 : (0 : Int) ≤ 7 - (j : Int) := by omega
        have g5 : (0 : Int) ≤ 8 * (7 - (j : Int)) := by omega
        have g6 : (8 * (7 - (j : Int))).toNat = 8 * (7 - j) := by omega
        have g7 : (j : Int) ≤ 7 := by omega
        have g8 : (56 : Int) + (j : Int) < 64 := by omega
        clear hz hR
        go_wp2_with fail
        go_roundw
        case rel =>
          refine ⟨j + 1, by omega, by go_num, ?_⟩
          rw [← lenN_set B0 (N * 8) j HB0.out hlt]
          exact HR.out.put (by unfold lenAt; rw [UInt8.toNat_ofNat']; simp)
        case measure => simp [intOf]; omega
      · obtain rfl : j = 8 := by omega
        have hl8 : (lenN B0 (N * 8) 8).length = 64 := lenN_len _ _ _ HB0.out (by omega)
        obtain ⟨B9, hB9⟩ : ∃ B9, lenN B0 (N * 8) 8 = B9 := ⟨_, rfl⟩
        have hfin := HFin.out
        rw [hB9] at hR hl8 hfin
        have hiv : (Try.prog.info? 154).map (·.size) = some (cellsB B9).toArray.size := by rw [cellsB_size, hl8]; exact infoBlock
        have hiv2 : (Try.prog.info? 151).map (·.size) = some (wordsW s0).size := by rw [wordsW_size, HS80.out]; exact infoState
        have hcl := comp_len s0 B9 HS80.out
        have hcs := comp_small s0 B9 HSS0.out
        have hiv3 : (Try.prog.info? 23).map (·.size) = some (cellsB (sumS D)).toArray.size := by rw [cellsB_size, sum_len]; exact infoID
        have hz3 : (cellsB (zer 32)).toArray.size = (cellsB (sumS D)).toArray.size := by rw [cellsB_size, cellsB_size, sum_len, zer_len]
        have HR := Lib.hid hR
        have h1 := hR.2.1
        have h2 := hR.2.2.1
        have H1 := Lib.hid h1
        have H2 := Lib.hid h2
        have HL8 := Lib.hid hl8
        have HFN := Lib.hid hfin
        have HIV := Lib.hid hiv
        have HIV2 := Lib.hid hiv2
        have HCL2 := Lib.hid hcl
        have HCS2 := Lib.hid hcs
        have HIV3 := Lib.hid hiv3
        have HZ3 := Lib.hid hz3
        clear hR h1 h2 hl8 hfin hiv hiv2 hcl hcs hiv3 hz3 hB9
        go_wp2_with (first
          | (refine wpList_load_row rfl 151 (.tmp 5) rfl S rfl 151 (wordsW s0) (0, 0) _ H2.out Try.underlying151 rfl HIV2.out ?_)
          | (refine wpList_load_row rfl 154 (.tmp 3) rfl (w.heap.size + 1) rfl 154 (cellsB B9).toArray (0, 0) _ H1.out Try.underlying154 rfl HIV.out ?_)
          | (go_at_call 104; refine (mix_any s0 B9 _ HS80.out HSS0.out HL8.out).mono ?_; rintro e w7 ⟨rfl, hb7⟩
             have R7 := HR.out.below hb7
             have RR7 := Lib.hid R7
             clear R7 hb7)
          | (go_at_call 105; refine (bytes_any (comp s0 B9) _ HCL2.out HCS2.out).mono ?_; rintro e w8 ⟨rfl, hb8⟩
             rw [HFN.out]
             have R8 := RR7.out.below hb8
             have RR8 := Lib.hid R8
             have R80 := Lib.hid R8.1
             clear R8 hb8)
          | (refine wpList_store_row rfl 23 (.tmp 2) (.tmp 55) rfl w.heap.size (cellsB (sumS D)).toArray rfl rfl 23 _ R80.out HIV3.out HZ3.out (cellsB_ones _) ?_))
        refine bodyPost_ret (v := .agg (cellsB (sumS D)).toArray) ?_ (by rfl) ?_
        · exact results_cell_row (p := 2) (ty := 23) rfl _ _ w.heap.size 23 (cellsB (sumS D)).toArray _ _ rfl (setRow_heap _ _ _ _ 23 _ R80.out) Try.underlying23 rfl HIV3.out
        · exact ⟨rfl, below_setRow RR8.out.2.2.2.2 (Nat.le_refl _) _⟩
  · have HFin : Hid (outB (comp st (lenN (lastB R) (N * 8) 8)) = sumS D) := Lib.hid (HF1.out (by omega))
    generalize hB0 : lastB R = B0 at HFin HLR SS4
    have HB0 := HLR
    have HS80 := HS8
    have HSS0 := HSS
    generalize hs0 : st = s0 at HFin HS80 HSS0 SS4
    generalize hw5 : w4 = w5 at SS4 HH4 ⊢
    have SS5 := SS4
    have HH5 := HH4
    clear hB0 SS4 HH4 hs0 hw5
    have c72 := cell_of_row w5 g 72 _ 156 (0, 0) HH5.out.1
    rw [List.getElem?_toArray, hashV_size _ _ _ HH5.out.2.1 HH5.out.2.2.2] at c72
    go_wp2_with fail
    go_loopw [39] (fun i wr => ∃ j : Nat, j ≤ 8 ∧ i = .int .i64 (j : Int) ∧ SumR w wr S (lenN B0 (N * 8) j) s0) (fun i _ => 8 - (intOf i).toNat)
    case atStart => exact ⟨0, by omega, rfl, by rw [lenN_zero]; exact SS5.out⟩
    case round =>
      obtain ⟨j, hj, rfl, hR⟩ := hrel
      by_cases hlt : j < 8
      · obtain ⟨z, hz, _⟩ := byte_at (lenN B0 (N * 8) j) (56 + j) (by rw [lenN_len _ _ _ HB0.out hj]; omega)
        have c5 := hR.2.1.cell hz
        have f5 := hR.2.1.frozen (56 + j)
        have HR := Lib.hid hR
        have g4 : (0 : Int) ≤ 7 - (j : Int) := by omega
        have g5 : (0 : Int) ≤ 8 * (7 - (j : Int)) := by omega
        have g6 : (8 * (7 - (j : Int))).toNat = 8 * (7 - j) := by omega
        have g7 : (j : Int) ≤ 7 := by omega
        have g8 : (56 : Int) + (j : Int) < 64 := by omega
        clear hz hR
        go_wp2_with fail
        go_roundw
        case rel =>
          refine ⟨j + 1, by omega, by go_num, ?_⟩
          rw [← lenN_set B0 (N * 8) j HB0.out hlt]
          exact HR.out.put (by unfold lenAt; rw [UInt8.toNat_ofNat']; simp)
        case measure => simp [intOf]; omega
      · obtain rfl : j = 8 := by omega
        have hl8 : (lenN B0 (N * 8) 8).length = 64 := lenN_len _ _ _ HB0.out (by omega)
        obtain ⟨B9, hB9⟩ : ∃ B9, lenN B0 (N * 8) 8 = B9 := ⟨_, rfl⟩
        have hfin := HFin.out
        rw [hB9] at hR hl8 hfin
        have hiv : (Try.prog.info? 154).map (·.size) = some (cellsB B9).toArray.size := by rw [cellsB_size, hl8]; exact infoBlock
        have hiv2 : (Try.prog.info? 151).map (·.size) = some (wordsW s0).size := by rw [wordsW_size, HS80.out]; exact infoState
        have hcl := comp_len s0 B9 HS80.out
        have hcs := comp_small s0 B9 HSS0.out
        have hiv3 : (Try.prog.info? 23).map (·.size) = some (cellsB (sumS D)).toArray.size := by rw [cellsB_size, sum_len]; exact infoID
        have hz3 : (cellsB (zer 32)).toArray.size = (cellsB (sumS D)).toArray.size := by rw [cellsB_size, cellsB_size, sum_len, zer_len]
        have HR := Lib.hid hR
        have h1 := hR.2.1
        have h2 := hR.2.2.1
        have H1 := Lib.hid h1
        have H2 := Lib.hid h2
        have HL8 := Lib.hid hl8
        have HFN := Lib.hid hfin
        have HIV := Lib.hid hiv
        have HIV2 := Lib.hid hiv2
        have HCL2 := Lib.hid hcl
        have HCS2 := Lib.hid hcs
        have HIV3 := Lib.hid hiv3
        have HZ3 := Lib.hid hz3
        clear hR h1 h2 hl8 hfin hiv hiv2 hcl hcs hiv3 hz3 hB9
        go_wp2_with (first
          | (refine wpList_load_row rfl 151 (.tmp 5) rfl S rfl 151 (wordsW s0) (0, 0) _ H2.out Try.underlying151 rfl HIV2.out ?_)
          | (refine wpList_load_row rfl 154 (.tmp 3) rfl (w.heap.size + 1) rfl 154 (cellsB B9).toArray (0, 0) _ H1.out Try.underlying154 rfl HIV.out ?_)
          | (go_at_call 104; refine (mix_any s0 B9 _ HS80.out HSS0.out HL8.out).mono ?_; rintro e w7 ⟨rfl, hb7⟩
             have R7 := HR.out.below hb7
             have RR7 := Lib.hid R7
             clear R7 hb7)
          | (go_at_call 105; refine (bytes_any (comp s0 B9) _ HCL2.out HCS2.out).mono ?_; rintro e w8 ⟨rfl, hb8⟩
             rw [HFN.out]
             have R8 := RR7.out.below hb8
             have RR8 := Lib.hid R8
             have R80 := Lib.hid R8.1
             clear R8 hb8)
          | (refine wpList_store_row rfl 23 (.tmp 2) (.tmp 55) rfl w.heap.size (cellsB (sumS D)).toArray rfl rfl 23 _ R80.out HIV3.out HZ3.out (cellsB_ones _) ?_))
        refine bodyPost_ret (v := .agg (cellsB (sumS D)).toArray) ?_ (by rfl) ?_
        · exact results_cell_row (p := 2) (ty := 23) rfl _ _ w.heap.size 23 (cellsB (sumS D)).toArray _ _ rfl (setRow_heap _ _ _ _ 23 _ R80.out) Try.underlying23 rfl HIV3.out
        · exact ⟨rfl, below_setRow RR8.out.2.2.2.2 (Nat.le_refl _) _⟩
end Go.Proofs.Ytadagbkfemcgfaa
