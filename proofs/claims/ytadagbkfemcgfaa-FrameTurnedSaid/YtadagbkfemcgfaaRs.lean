/-
  Own work. The contract of the document's answer's Sum: SHA-256 of the whole text at once.
-/
import Derived.Test.YtadagbkfemcgfaaRk
import Derived.Test.YtadagbkfemcgfaaSm
namespace Go.Proofs.Ytadagbkfemcgfaa
open Go.RowKit
set_option linter.unusedVariables false
set_option linter.unusedSimpArgs false

theorem cell_setRow {w : World} {g : Nat} {p : Addr} {cs : Array Value} (hne : p.block ≠ g) : (w.setRow g cs).cell? p = w.cell? p := by
  unfold World.cell?
  rw [setRow_other w g p.block cs hne]
/-- How long a slice is. -/
def lenV : Value → Nat
  | .slice _ n _ => n
  | _ => 0
/-- What the document's Sum holds: the answer's place, the keys, the state, the padded text. -/
def RsR (w wr : World) (kb hb pg : Nat) (P : List UInt8) (s : List Nat) : Prop :=
  Bw wr w.heap.size 23 (zer 32) ∧ Wd wr kb 140 keysL ∧ Wd wr hb 142 s ∧ (∀ i x, P[i]? = some x → wr.cell? ⟨pg, i, none⟩ = some (.int .u8 (x.toNat : Int))) ∧ pg < hb ∧ kb < hb ∧ w.heap.size < hb ∧ Below w.heap.size w wr
section
variable {w wr wr' : World} {kb hb pg : Nat} {P : List UInt8} {s s' : List Nat}
theorem RsR.below (h : RsR w wr kb hb pg P s) (hb' : Below wr.heap.size wr wr') : RsR w wr' kb hb pg P s := by
  obtain ⟨h0, h1, h2, h3, h4, h5, h6, h7⟩ := h
  exact ⟨h0.below hb' h0.lt, (hb'.block _ h1.lt).trans h1, (hb'.block _ h2.lt).trans h2, fun i x hx => (hb'.cell (p := ⟨pg, i, none⟩) (Nat.lt_trans h4 h2.lt)).trans (h3 i x hx), h4, h5, h6, h7.trans (hb'.mono h7.size)⟩
theorem RsR.alloc (h : RsR w wr kb hb pg P s) (o : Obj) : RsR w (wr.alloc o) kb hb pg P s := h.below ((Below.refl _ _).alloc (Nat.le_refl _) _)
theorem RsR.drewN (h : RsR w wr kb hb pg P s) (n : Nat) : RsR w (wr.drewN n) kb hb pg P s := ⟨h.1, h.2.1, h.2.2.1, h.2.2.2.1, h.2.2.2.2.1, h.2.2.2.2.2.1, h.2.2.2.2.2.2.1, below_drewN h.2.2.2.2.2.2.2 n⟩
theorem RsR.far (h : RsR w wr kb hb pg P s) {p : Addr} (hp : hb < p.block) (u : Value) : RsR w (wr.setCell p u) kb hb pg P s := by
  obtain ⟨h0, h1, h2, h3, h4, h5, h6, h7⟩ := h
  refine ⟨h0.far (by omega) _, h1.far (by omega) _, h2.far (by omega) _, fun i x hx => ?_, h4, h5, h6, h7.setCell (by omega) _⟩
  rw [World.cell?_setCell_other wr _ _ u (fun e => by rw [e] at hp; simp at hp; omega)]
  exact h3 i x hx
theorem RsR.putS (h : RsR w wr kb hb pg P s) : RsR w (wr.setRow hb (wordsV s')) kb hb pg P s' := by
  obtain ⟨h0, h1, h2, h3, h4, h5, h6, h7⟩ := h
  refine ⟨h0.rowFar (by omega) _, h1.rowFar (by omega) _, h2.row, fun i x hx => ?_, h4, h5, h6, below_setRow h7 (by omega) _⟩
  exact (cell_setRow (show pg ≠ hb by omega)).trans (h3 i x hx)
end

theorem zer_snoc (j : Nat) : zer j ++ [0] = zer (j + 1) := by simp [zer, List.replicate_succ']
theorem rng_snoc (N i : Nat) : (List.range i).map (lenAt N) ++ [lenAt N i] = (List.range (i + 1)).map (lenAt N) := by rw [List.range_succ, List.map_append]; rfl

set_option maxRecDepth 100000 in
set_option maxHeartbeats 2000000 in
theorem rsum_any (A : Option Addr) (n c : Nat) (b : List UInt8) (w : World) (h : HasB w w.heap.size A n b) (hn : n ≤ 1073741824) :
    Calls Try.prog 63 #[.slice A n c] w (RetID w (sumS b)) := by
  have HS := Lib.hid h
  have HL := Lib.hid h.len
  clear h
  go_enter Try.func63, Try.ntmps63
  go_upto_region 2 with (first
    | (go_at_call 89; refine (rkeys_any _).mono ?_; rintro e w1 ⟨rfl, hb1⟩
       have HB1 := Lib.hid hb1
       clear hb1)
    | (refine wpList_store_row rfl 140 (.tmp 3) (.tmp 13) rfl w1.heap.size (wordsV keysL) rfl rfl 140 _ (heap_alloc_new w1 _) info64 (by rfl) (wordsV_one _) ?_))
  generalize hw2 : World.setRow _ _ _ = w2
  have s1 := HB1.out.size
  simp at s1
  have R0 : Bw w2 w.heap.size 23 (zer 32) := by
    rw [← hw2]
    exact ((Bw.below (Bw.new w (zer 32) 23) HB1.out (by simp)).alloc _).rowFar (by omega) _
  have R1 : Wd w2 w1.heap.size 140 keysL := by rw [← hw2]; exact setRow_heap _ _ _ _ 140 _ (heap_alloc_new w1 _)
  have B2 : Below w.heap.size w w2 := by
    rw [← hw2]
    exact below_setRow ((((Below.refl _ _).alloc (Nat.le_refl _) _).trans (HB1.out.mono (by simp))).alloc (by omega) _) (by omega) _
  obtain ⟨kb, hkb⟩ : ∃ kb, w1.heap.size = kb := ⟨_, rfl⟩
  rw [hkb] at R1 ⊢
  have hk1 : w.heap.size < kb := by omega
  have hA : HasB (w2.alloc (.cells #[] 5)) w2.heap.size A n b := ((HS.out.below B2).more B2.size).alloc (Nat.le_refl _) _
  have RR0 := Lib.hid R0
  have RR1 := Lib.hid R1
  have BB2 := Lib.hid B2
  have HA := Lib.hid hA
  clear hw2 R0 R1 B2 hkb s1 HB1 hA
  go_wp2_with (first
    | (at_builtin; refine wp_app rfl (.tmp 14) (.tmp 15) rfl Try.underlying24 infoU8 w2.heap.size _ [] b rfl (OwnB.empty w2) w2.heap.size A n c rfl HA.out (by have := HL.out; simp; omega) (by simp) ?_; intro A3 n3 c3 w3 hown3 hg3 hb3)
    | (at_builtin; refine wp_app rfl (.tmp 16) (.tmp 17) rfl Try.underlying24 infoU8 w2.heap.size _ _ [128] rfl (hown3.alloc _) _ _ _ _ rfl (HasB.one w3 _ _ _ (by rfl)) (by have := HL.out; simp; omega) (by have := hb3.size; simp at this; simp; omega) ?_; intro A4 n4 c4 w4 hown4 hg4 hb4))
  obtain ⟨M, hM⟩ : ∃ M, (119 - n % 64) % 64 = M := ⟨_, rfl⟩
  have hM64 : M < 64 := by omega
  have hw24 : Below w2.heap.size w2 w4 := ((((Below.refl _ _).alloc (Nat.le_refl _) _).trans hb3).alloc (by have := hb3.size; simp at this; omega) _).trans hb4
  simp only [List.nil_append] at hown4
  have HM := Lib.hid hM
  have O4 := Lib.hid hown4
  have B4 := Lib.hid hw24
  clear hM hown3 hown4 hb3 hb4 hg3 hg4 hw24
  go_loopw [4] (fun s wr => ∃ (A' : Option Addr) (n' c' j : Nat), s = .slice A' n' c' ∧ j ≤ M ∧ OwnB wr w2.heap.size (.slice A' n' c') (b ++ 128 :: zer j) ∧ Below w2.heap.size w2 wr) (fun s _ => n + 1 + M - lenV s)
  case atStart => exact ⟨A4, n4, c4, 0, rfl, by omega, O4.out, B4.out⟩
  case round =>
    obtain ⟨A', n', c', j, rfl, hj, hown, hbel⟩ := hrel
    have hnl : n' = n + 1 + j := by have h1 := hown.len; have h2 := HL.out; rw [List.length_append, List.length_cons, zer_len] at h1; omega
    by_cases hlt : j < M
    · have hx : ¬ ((n' : Int) % 64 = 56) := by have := HM.out; omega
      have hx2 : ¬ ((n' : Int).tmod 64 = 56) := by rw [Int.tmod_eq_emod_of_nonneg (by omega)]; exact hx
      have O := Lib.hid hown
      have HB := Lib.hid hbel
      have HNL := Lib.hid hnl
      clear hown hbel hnl
      go_wp2_with (at_builtin; refine wp_app rfl (.tmp 23) (.tmp 24) rfl Try.underlying24 infoU8 w2.heap.size _ _ [0] rfl (O.out.alloc _) _ _ _ _ rfl (HasB.one wr _ _ _ (by rfl)) (by have := HL.out; simp [zer_len]; omega) (by have := HB.out.size; simp; omega) ?_; intro A5 n5 c5 w5 hown5 hg5 hb5)
      have hz5 : (b ++ 128 :: zer j) ++ [0] = b ++ 128 :: zer (j + 1) := by rw [List.append_assoc, List.cons_append, zer_snoc]
      rw [hz5] at hown5
      go_roundw
      case rel => exact ⟨A5, n5, c5, j + 1, rfl, by omega, hown5, (HB.out.alloc HB.out.size _).trans hb5⟩
      case measure =>
        have h1 := hown5.len
        have h2 := HL.out
        have h3 := HNL.out
        rw [List.length_append, List.length_cons, zer_len] at h1
        simp only [lenV]
        omega
    · obtain rfl : j = M := by omega
      have hx : ((n' : Int) % 64 = 56) := by have := HM.out; omega
      have hx2 : ((n' : Int).tmod 64 = 56) := by rw [Int.tmod_eq_emod_of_nonneg (by omega)]; exact hx
      have O := Lib.hid hown
      have HB := Lib.hid hbel
      have HNL := Lib.hid hnl
      clear hown hbel hnl
      go_wp2_with fail
      obtain ⟨D, hD⟩ : ∃ D, b ++ 128 :: zer j = D := ⟨_, rfl⟩
      have hDl : D.length = n' := by rw [← hD]; exact O.out.len.symm
      rw [hD] at O
      have HD := Lib.hid hD
      have HDL := Lib.hid hDl
      clear hD hDl
      go_loopw [4, 6] (fun s x wr => ∃ (A' : Option Addr) (n' c' i : Nat), s = .slice A' n' c' ∧ x = .int .i64 (i : Int) ∧ i ≤ 8 ∧ OwnB wr w2.heap.size (.slice A' n' c') (D ++ (List.range i).map (lenAt (n * 8))) ∧ Below w2.heap.size w2 wr) (fun _ x _ => 8 - (intOf x).toNat)
      case atStart => exact ⟨A', n', c', 0, rfl, rfl, by omega, by simpa using O.out, HB.out⟩
      case round =>
        obtain ⟨A7, n7, c7, i, rfl, rfl, hi, hown, hbel⟩ := hrel
        by_cases hlt2 : i < 8
        · have O7 := Lib.hid hown
          have B7 := Lib.hid hbel
          have g4 : (0 : Int) ≤ 56 - 8 * (i : Int) := by omega
          have g5 : (56 - 8 * (i : Int)).toNat = 56 - 8 * i := by omega
          clear hown hbel
          go_wp2_with (at_builtin; go_loud (refine wp_app rfl (.tmp 34) (.tmp 41) rfl Try.underlying24 infoU8 w2.heap.size _ _ [lenAt (n * 8) i] rfl (O7.out.alloc _) _ _ _ _ rfl (HasB.one wr _ _ _ ?hx1) (by have := HDL.out; have := HNL.out; simp; omega) (by have := B7.out.size; simp; omega) ?_); rotate_right; intro A5 n5 c5 w5 hown5 hg5 hb5)
          case hx1 => unfold lenAt; rw [UInt8.toNat_ofNat']; simp; rw [show 56 - 8 * i = 8 * (7 - i) by omega]
          rw [List.append_assoc, rng_snoc] at hown5
          go_roundw
          case rel => exact ⟨A5, n5, c5, i + 1, rfl, by go_num, by omega, hown5, (B7.out.alloc B7.out.size _).trans hb5⟩
          case measure => simp [intOf]; omega
        · obtain rfl : i = 8 := by omega
          have hP : D ++ (List.range 8).map (lenAt (n * 8)) = padS b := by
            rw [← HD.out, padS, padE, ← HL.out, HM.out, List.append_assoc, List.cons_append]
            rfl
          rw [hP] at hown
          obtain ⟨P, hPP⟩ : ∃ P, padS b = P := ⟨_, rfl⟩
          have hPl := padS_len b
          have hsum : sumS b = outB (mixN P (P.length / 64)) := by rw [← hPP]; rfl
          rw [hPP] at hown hPl
          have hP64 : P.length = 64 * (P.length / 64) := by omega
          have hPm : P.length ≤ 1073741824 + 128 := by have := HL.out; omega
          obtain ⟨pg, rfl, hpg, hpl, hpc⟩ := hown.head (by have := hown.len; omega)
          have hn7 : n7 = P.length := hown.len
          obtain ⟨Q, hQ⟩ : ∃ Q, P.length / 64 = Q := ⟨_, rfl⟩
          rw [hQ] at hP64 hsum
          have hb5 : Below w.heap.size w wr := BB2.out.trans (hbel.mono BB2.out.size)
          have r0 : Bw wr w.heap.size 23 (zer 32) := (hbel.block _ RR0.out.lt).trans RR0.out
          have r1 : Wd wr kb 140 keysL := (hbel.block _ RR1.out.lt).trans RR1.out
          have P7 := Lib.hid hn7
          have PL := Lib.hid hP64
          have PM := Lib.hid hPm
          have PC := Lib.hid hpc
          have PB := Lib.hid hb5
          have PR0 := Lib.hid r0
          have PR1 := Lib.hid r1
          have HSUM := Lib.hid hsum
          have PG := Lib.hid hpl
          have K1 := Lib.hid hk1
          clear hown hbel hP hPP hPl hP64 hsum hPm hpc hpg hpl hn7 hQ hb5 r0 r1 O HB HDL HD HNL HM HL B4 O4 HS HA BB2 RR0 RR1 hk1 hx hx2 hlt hlt2 hM64 hj
          go_wp2_with (first
            | (refine wpList_buildFlatArr rfl 142 65 8 _ rfl .u64 (H0L.map fun (x : Nat) => (x : Int)) Try.underlying142 infoU64 (by kernel_rfl) rfl ?_)
            | (refine wpList_store_row rfl 142 (.tmp 7) (.tmp 43) rfl wr.heap.size (wordsV H0L) rfl rfl 142 _ (heap_alloc_new wr _) info8 (by rfl) (wordsV_one _) ?_))
          generalize hw6 : World.setRow _ _ _ = w6
          have R6 : RsR w w6 kb wr.heap.size pg P (mixN P 0) := by
            rw [← hw6]
            have := PR0.out.lt
            have := PR1.out.lt
            have := PG.out
            refine ⟨(PR0.out.alloc _).rowFar (by omega) _, (PR1.out.alloc _).rowFar (by omega) _, setRow_heap _ _ _ _ 142 _ (heap_alloc_new wr _), fun i x hx => ?_, PG.out, PR1.out.lt, by omega, below_setRow (PB.out.alloc (by omega) _) (by omega) _⟩
            exact (cell_setRow (show pg ≠ wr.heap.size by omega)).trans ((World.cell?_alloc_lt wr _ ⟨pg, i, none⟩ PG.out).trans (PC.out i x hx))
          obtain ⟨hb, hhb⟩ : ∃ hb, wr.heap.size = hb := ⟨_, rfl⟩
          rw [hhb] at R6 ⊢
          have RR6 := Lib.hid R6
          clear R6 hw6 hhb PR0 PR1 PG PC PB
          go_loopw [8] (fun x wr => ∃ k : Nat, k ≤ Q ∧ x = .int .i64 ((64 * k : Nat) : Int) ∧ RsR w wr kb hb pg P (mixN P k)) (fun x _ => 64 * Q - (intOf x).toNat)
          case atStart => exact ⟨0, by omega, rfl, RR6.out⟩
          case round =>
            obtain ⟨k, hk, rfl, hR⟩ := hrel
            by_cases hlt3 : k < Q
            · have HR := Lib.hid hR
              have lk : (64 * k : Nat) < n7 := by have := P7.out; have := PL.out; omega
              have hms := mixN_small P k
              have hml := mixN_len P k
              have hmx : mixN P (k + 1) = blockS (mixN P k) (wP (blk P k) 64) keysL := by rw [mixN, comp, wP_end]
              have hbl := blk_len P k (by have := PL.out; omega)
              have hbd := blk_getD P k
              have hpk : ∀ i, i < 64 → ∃ x, P[64 * k + i]? = some x ∧ (blk P k).getD i 0 = x := by
                intro i hi
                obtain ⟨x, hx1, hx2⟩ := byte_at P (64 * k + i) (by have := PL.out; omega)
                exact ⟨x, hx1, (hbd i hi).trans hx2⟩
              generalize hMk : mixN P k = sk at HR hms hml hmx
              generalize blk P k = Bk at hmx hbl hpk
              have HMS := Lib.hid hms
              have HML := Lib.hid hml
              have HMX := Lib.hid hmx
              have HPK := Lib.hid hpk
              clear hR hms hml hmx hbl hbd hpk hMk
              go_wp2_with fail
              generalize hw8 : World.alloc _ _ = w8
              have R8 : RsR w w8 kb hb pg P sk := by rw [← hw8]; exact HR.out.alloc _
              have W8 : Wd w8 wr.heap.size 140 (wP Bk 0) := by rw [← hw8, wP_zero]; exact heap_alloc_new wr _
              have hgb : hb < wr.heap.size := HR.out.2.2.1.lt
              obtain ⟨g, hg⟩ : ∃ g, wr.heap.size = g := ⟨_, rfl⟩
              rw [hg] at W8 hgb ⊢
              have RR8 := Lib.hid R8
              have WW8 := Lib.hid W8
              have HGB := Lib.hid hgb
              clear hw8 R8 W8 hg HR hgb
              go_loopw [10] (fun x wr => ∃ i : Nat, i ≤ 64 ∧ x = .int .i64 (i : Int) ∧ RsR w wr kb hb pg P sk ∧ Wd wr g 140 (wP Bk i)) (fun x _ => 64 - (intOf x).toNat)
              case atStart => exact ⟨0, by omega, rfl, RR8.out, WW8.out⟩
              case round =>
                obtain ⟨i, hi, rfl, hR, hW⟩ := hrel
                by_cases hlt4 : i < 64
                · obtain ⟨x, hx, hxb⟩ := HPK.out i hlt4
                  have cw := hW.cell (wP_get Bk i hlt4)
                  have fw := hW.frozen (i / 4)
                  have cp := hR.2.2.2.1 (64 * k + i) x hx
                  have hv := pwt_lt3 Bk (i / 4) (i % 4) (by omega)
                  have hset := wP_set Bk i hlt4
                  rw [hxb] at hset
                  generalize pwt Bk (i / 4) (i % 4) = v at cw hv hset
                  have hxl := x.toNat_lt
                  have g1 : (0 : Int) ≤ (i : Int) / 4 := by omega
                  have g2 : (i : Int) / 4 < 64 := by omega
                  have g3 : ((i : Int) / 4).toNat = i / 4 := by omega
                  have g4 : (0 : Int) ≤ 64 * (k : Int) + (i : Int) := by omega
                  have g5 : 64 * (k : Int) + (i : Int) < (n7 : Int) := by have := P7.out; have := PL.out; omega
                  have g6 : (64 * (k : Int) + (i : Int)).toNat = 64 * k + i := by omega
                  have gm : 64 * (k : Int) ≤ 1073741952 := by have := PM.out; have := PL.out; omega
                  have q1 : IntKind.i64.wrap (64 * (k : Int) + (i : Int)) = 64 * (k : Int) + (i : Int) := IntWalk.i64_in _ (by omega)
                  have q2 : IntKind.i64.wrap ((i : Int) / 4) = (i : Int) / 4 := IntWalk.i64_in _ (by omega)
                  have HR9 := Lib.hid hR
                  have HW9 := Lib.hid hW
                  have HST := Lib.hid hset
                  clear hR hW hx hxb hset
                  go_wp2_with fail
                  go_region
                  all_goals go_wp2_with fail
                  go_roundw
                  case rel =>
                    refine ⟨i + 1, by omega, by go_num, (HR9.out.drewN _).far (show hb < g from HGB.out) _, ?_⟩
                    rw [← HST.out]
                    exact (HW9.out.drewN _).set_ (by omega)
                  case measure => simp [intOf]; omega
                · obtain rfl : i = 64 := by omega
                  have l1 := hR.2.2.1
                  have l2 := hR.2.1
                  have i1 : (Try.prog.info? 142).map (·.size) = some (wordsV sk).size := by rw [wordsV_size, HML.out]; exact info8
                  have i2 : (Try.prog.info? 140).map (·.size) = some (wordsV (wP Bk 64)).size := by rw [wordsV_size, wP_len]; exact info64
                  have i3 : (Try.prog.info? 140).map (·.size) = some (wordsV keysL).size := by rw [wordsV_size]; exact info64
                  have hnl : (mixN P (k + 1)).length = 8 := mixN_len P (k + 1)
                  have i4 : (Try.prog.info? 142).map (·.size) = some (wordsV (mixN P (k + 1))).size := by rw [wordsV_size, hnl]; exact info8
                  have i5 : (wordsV sk).size = (wordsV (mixN P (k + 1))).size := by rw [wordsV_size, wordsV_size, hnl, HML.out]
                  have sw : Small (wP Bk 64) := by rw [wP_end]; exact wsN_small Bk 16
                  have cb := fun W => block_any sk keysL (wP Bk 64) W HML.out (wP_len Bk 64) rfl HMS.out sw keys_small
                  rw [← HMX.out] at cb
                  generalize wP Bk 64 = Wk at hW i2 sw cb
                  obtain ⟨sn, hsn⟩ : ∃ sn, mixN P (k + 1) = sn := ⟨_, rfl⟩
                  rw [hsn] at hnl i4 i5 cb
                  have HSN := Lib.hid hsn
                  have gm : 64 * (k : Int) ≤ 1073741952 := by have := PM.out; have := PL.out; omega
                  have q1 : IntKind.i64.wrap (64 * (k : Int) + 64) = 64 * (k : Int) + 64 := IntWalk.i64_in _ (by omega)
                  have L1 := Lib.hid l1
                  have L2 := Lib.hid l2
                  have L3 := Lib.hid hW
                  have I1 := Lib.hid i1
                  have I2 := Lib.hid i2
                  have I3 := Lib.hid i3
                  have I4 := Lib.hid i4
                  have I5 := Lib.hid i5
                  have CB := Lib.hid cb
                  have HR10 := Lib.hid hR
                  clear l1 l2 hW i1 i2 i3 i4 i5 cb hnl sw hR hsn
                  go_wp2_with (first
                    | (refine wpList_load_row rfl 142 (.tmp 7) rfl hb rfl 142 (wordsV sk) (0, 0) _ L1.out Try.underlying142 rfl I1.out ?_)
                    | (refine wpList_load_row rfl 140 (.tmp 9) rfl g rfl 140 (wordsV Wk) (0, 0) _ L3.out Try.underlying140 rfl I2.out ?_)
                    | (refine wpList_load_row rfl 140 (.tmp 3) rfl kb rfl 140 (wordsV keysL) (0, 0) _ L2.out Try.underlying140 rfl I3.out ?_)
                    | (go_at_call 90; refine (CB.out _).mono ?_; rintro e w9 ⟨rfl, hb9⟩
                       have R9 := HR10.out.below hb9
                       have L9 := Lib.hid R9.2.2.1
                       have RR9 := Lib.hid R9
                       clear R9 hb9)
                    | (refine wpList_store_row rfl 142 (.tmp 7) (.tmp 73) rfl hb (wordsV sn) rfl rfl 142 _ L9.out I4.out I5.out (wordsV_one _) ?_))
                  go_roundw
                  case rel => exact ⟨k + 1, by omega, by go_num, by rw [HSN.out]; exact RR9.out.putS⟩
                  case measure => simp [intOf]; omega
            · obtain rfl : k = Q := by omega
              have hss := mixN_small P k
              have hsl := mixN_len P k
              have hsu := HSUM.out
              have gl : ¬ (64 * (k : Int) < (n7 : Int)) := by have := P7.out; have := PL.out; omega
              have gl2 : ¬ (((64 * k : Nat) : Int) < (n7 : Int)) := by have := P7.out; have := PL.out; omega
              generalize mixN P k = sk at hR hss hsl hsu
              have HR := Lib.hid hR
              have HSS := Lib.hid hss
              have HSL := Lib.hid hsl
              have HSU := Lib.hid hsu
              clear hR hss hsl hsu
              go_wp2_with fail
              generalize hw8 : World.alloc _ _ = w8
              have R8 : RsR w w8 kb hb pg P sk := by rw [← hw8]; exact HR.out.alloc _
              have W8 : Bw w8 wr.heap.size 23 (outN sk 0) := by rw [← hw8]; exact heap_alloc_new wr _
              have hgb : hb < wr.heap.size := HR.out.2.2.1.lt
              obtain ⟨g, hg⟩ : ∃ g, wr.heap.size = g := ⟨_, rfl⟩
              rw [hg] at W8 hgb ⊢
              have RR8 := Lib.hid R8
              have WW8 := Lib.hid W8
              have HGB := Lib.hid hgb
              clear hw8 R8 W8 hg HR hgb
              go_loopw [12] (fun x wr => ∃ j : Nat, j ≤ 32 ∧ x = .int .i64 (j : Int) ∧ RsR w wr kb hb pg P sk ∧ Bw wr g 23 (outN sk j)) (fun x _ => 32 - (intOf x).toNat)
              case atStart => exact ⟨0, by omega, rfl, RR8.out, WW8.out⟩
              case round =>
                obtain ⟨j, hj, rfl, hR, hO⟩ := hrel
                by_cases hlt5 : j < 32
                · obtain ⟨x, ax, bx⟩ := word_at sk (j / 4) (by rw [HSL.out]; omega)
                  obtain ⟨z, az, _⟩ := byte_at (outN sk j) j (by rw [outN_len sk j hj]; omega)
                  have c1 := hR.2.2.1.cell ax
                  have lx := HSS.out.at_ ax
                  have c2 := hO.cell az
                  have f2 := hO.frozen j
                  have HX := Lib.hid bx
                  have HR9 := Lib.hid hR
                  have HO9 := Lib.hid hO
                  have g1 : (0 : Int) ≤ (j : Int) / 4 := by omega
                  have g2 : (j : Int) / 4 < 8 := by omega
                  have g3 : ((j : Int) / 4).toNat = j / 4 := by omega
                  have g4 : (0 : Int) ≤ 24 - 8 * ((j : Int) % 4) := by omega
                  have g5 : (24 - 8 * ((j : Int) % 4)).toNat = 24 - 8 * (j % 4) := by omega
                  clear ax bx az hR hO
                  go_wp2_with fail
                  go_roundw
                  case rel =>
                    refine ⟨j + 1, by omega, by go_num, HR9.out.far (show hb < g from HGB.out) _, ?_⟩
                    rw [← outN_set sk j hlt5]
                    exact HO9.out.set_ (by unfold outAt; rw [HX.out, UInt8.toNat_ofNat']; simp)
                  case measure => simp [intOf]; omega
                · obtain rfl : j = 32 := by omega
                  have hsz : (cellsB (outN sk 32)).toArray.size = 32 := by rw [cellsB_size]; exact outN_len sk 32 (by omega)
                  have hO2 : Bw wr g 23 (sumS b) := by rw [HSU.out]; exact hO
                  have iv : (Try.prog.info? 23).map (·.size) = some (cellsB (sumS b)).toArray.size := by rw [cellsB_size, sum_len]; exact infoID
                  have hz : (cellsB (zer 32)).toArray.size = (cellsB (sumS b)).toArray.size := by rw [cellsB_size, cellsB_size, sum_len, zer_len]
                  have H0 := Lib.hid hR.1
                  have H2 := Lib.hid hO2
                  have HB2 := Lib.hid hR.2.2.2.2.2.2.2
                  have IV := Lib.hid iv
                  have HZ := Lib.hid hz
                  clear hsz iv hz hR hO hO2
                  go_wp2_with (first
                    | (refine wpList_load_row rfl 23 (.tmp 11) rfl g rfl 23 (cellsB (sumS b)).toArray (0, 0) _ H2.out Try.underlying23 rfl IV.out ?_)
                    | (refine wpList_store_row rfl 23 (.tmp 2) (.tmp 90) rfl w.heap.size (cellsB (sumS b)).toArray rfl rfl 23 _ H0.out IV.out HZ.out (cellsB_ones _) ?_))
                  refine bodyPost_ret (v := .agg (cellsB (sumS b)).toArray) ?_ (by rfl) ?_
                  · exact results_cell_row (p := 2) (ty := 23) rfl _ _ w.heap.size 23 (cellsB (sumS b)).toArray _ _ rfl (setRow_heap _ _ _ _ 23 _ H0.out) Try.underlying23 rfl IV.out
                  · exact ⟨rfl, below_setRow HB2.out (Nat.le_refl _) _⟩
end Go.Proofs.Ytadagbkfemcgfaa
