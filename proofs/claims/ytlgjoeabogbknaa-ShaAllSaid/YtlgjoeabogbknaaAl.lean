/-
  The law ShaAll walked: the hash of any parts is the document's.
-/
import Derived.Test.YtlgjoeabogbknaaTw
import Derived.Test.YtlgjoeabogbknaaRo
import Derived.Test.YtlgjoeabogbknaaNone
import Derived.Deep.Matrix
namespace Go.Proofs.Ytlgjoeabogbknaa
open Go.RowKit
set_option linter.unusedVariables false
set_option linter.unusedSimpArgs false

/-- Twins read as what they are twins of. -/
theorem TwinsP.has {w : World} {base b n c : Nat} {A : Option Addr} {hs : List Value} {ls : List (List UInt8)} (h : TwinsP w b hs ls) (ho : OwnL w base (.slice A n c) hs) : HasBB w w.heap.size A n ls := by
  refine ⟨by rw [ho.len, h.1], fun hn => ?_⟩
  obtain ⟨g, e, _, hlt, hc⟩ := ho.at_ hn
  refine ⟨g, 0, e, hlt, fun i l hl => ?_⟩
  obtain ⟨Ai, h1, h2⟩ := h.2 i l hl
  exact ⟨Ai, l.length, l.length + 3, by rw [Nat.zero_add]; exact hc i _ h1, by omega, h2.has rfl⟩
/-- What the last line of ShaAll asks of a world: the answer's place, the hash, what was there, and the twins. -/
structure AllS (w W0 W : World) (xb g : Nat) (I D : List UInt8) : Prop where
  x : Bw W xb 31 I
  d : HashD W g D
  b : Below w.heap.size w W
  t : Below W0.heap.size W0 W
theorem AllS.below {w W0 W W' : World} {xb g : Nat} {I D : List UInt8} (h : AllS w W0 W xb g I D) (hb : Below W.heap.size W W') : AllS w W0 W' xb g I D :=
  ⟨h.x.below hb h.x.lt, h.d.below hb h.d.lt, h.b.trans (hb.mono h.b.size), h.t.trans (hb.mono h.t.size)⟩
theorem AllS.drew {w W0 W : World} {xb g : Nat} {I D : List UInt8} (h : AllS w W0 W xb g I D) : AllS w W0 W.drew xb g I D := ⟨h.x, h.d, h.b.drew, h.t.drew⟩

set_option maxRecDepth 100000 in
set_option maxHeartbeats 1000000 in
theorem all_ok (A : Option Addr) (n c : Nat) (ls : List (List UInt8)) (w : World) (h : HasBB w w.heap.size A n ls) (hn : n ≤ 8192) (hf : ls.flatten.length ≤ 8192) (hc : n ≤ c) :
    Calls Try.prog 3 #[.slice A n c] w (RetTrue w) := by
  have HS := Lib.hid h
  have HN := Lib.hid h.1
  have HFL := Lib.hid hf
  obtain ⟨N, hN⟩ : ∃ N, ls.flatten.length = N := ⟨_, rfl⟩
  have hN2 : N ≤ 8192 := by omega
  have HNN := Lib.hid hN
  have sumN : ∀ W, Below w.heap.size w W → Calls Try.prog 10 #[.slice A n c, .int .i64 8192] W fun e w' => e = .returned (.int .i64 (N : Int)) ∧ W = w' := by
    intro W hb
    refine (lsum_any A n c 8192 ls W (h.on hb) (by omega) (by omega)).mono ?_
    rintro e w' ⟨⟨r, hr, rfl⟩, rfl⟩
    exact ⟨by rw [hr.1 hf, hN], rfl⟩
  have HSN := Lib.hid sumN
  clear h hf hN sumN
  go_enter Try.func3, Try.ntmps3
  go_wp2_with (first
    | (go_at_call 9; refine (begun_any _).mono ?_; rintro e w1 ⟨rfl, b1⟩
       have B1 := Lib.hid b1
       clear b1)
    | (go_at_call 10; refine (HSN.out _ B1.out).mono ?_; rintro e w2 ⟨rfl, rfl⟩)
    | (go_at_call 11; refine (twins_any A n c ls _ (HS.out.on B1.out) hn (by have := HFL.out; omega)).mono ?_; rintro e W0 ⟨A3, n3, c3, hs3, rfl, ho3, ht3, b3⟩
       have b3' := B1.out.trans (b3.mono B1.out.size)
       have hn3 : n3 = n := by rw [ho3.len, ht3.1, HN.out]
       have hcap : n3 ≤ c3 := ho3.caps.1
       have HO3 := Lib.hid ho3
       have HT3 := Lib.hid ht3
       have B3 := Lib.hid b3'
       have HN3 := Lib.hid hn3
       have HC3 := Lib.hid hcap
       clear b3 b3' ho3 ht3 hn3 hcap)
    | (go_at_call 12; refine (new_any _).mono ?_; rintro e w4 ⟨g, rfl, hg, hd4, b4⟩
       have HG := Lib.hid hg
       have HD4 := Lib.hid hd4
       have B4 := Lib.hid b4
       clear hg hd4 b4))
  have hn38 : n3 ≤ 8192 := by rw [HN3.out]; exact hn
  go_loopw [5] (fun x wr => ∃ k : Nat, k ≤ n3 ∧ x = .int .i64 (k : Int) ∧ HashD wr g (ls.take k).flatten ∧ Below W0.heap.size W0 wr) (fun x _ => n3 - (intOf x).toNat)
  case atStart => exact ⟨0, by omega, rfl, HD4.out, B4.out⟩
  case round =>
    obtain ⟨k, hk, rfl, hD, hbel⟩ := hrel
    by_cases hlt : k < n3
    · obtain ⟨l, hl⟩ : ∃ l, ls[k]? = some l := ⟨_, List.getElem?_eq_getElem (by rw [← HN.out, ← HN3.out]; exact hlt)⟩
      obtain ⟨gl, rfl, _, hgl, hgc⟩ := HO3.out.at_ (by omega)
      obtain ⟨Ai, hAi, htw⟩ := HT3.out.2 k l hl
      have hcell : wr.cell? ⟨gl, k, none⟩ = some (.slice Ai l.length (l.length + 3)) := (hbel.cell (p := ⟨gl, k, none⟩) hgl).trans (hgc k _ hAi)
      have hsrc : Src wr g Ai l.length l := Src.of_below ((htw.has rfl).below hbel) HG.out hD.lt
      have hsn := flat_snoc ls k l hl
      have hll : (ls.take k).flatten.length + l.length ≤ 4294967296 := by
        have := flat_len ls (k + 1)
        rw [hsn, List.length_append] at this
        have := HFL.out
        omega
      have CW := write_any g l.length (l.length + 3) (ls.take k).flatten l Ai wr hD hsrc (by omega) hll
      rw [← hsn] at CW
      obtain ⟨ll, hll2⟩ : ∃ ll, l.length = ll := ⟨_, rfl⟩
      rw [hll2] at hcell CW
      have HB := Lib.hid hbel
      have HCW := Lib.hid CW
      clear hl hgl hgc hAi htw hsrc hsn hll CW hD hbel hll2 HD4 B4
      go_wp2_with (first
        | (go_at_call 13; refine HCW.out.mono ?_; rintro e w6 ⟨rfl, hd6, hg6⟩
           have HD6 := Lib.hid hd6
           have HG6 := Lib.hid hg6
           clear hd6 hg6))
      go_roundw
      case rel => exact ⟨k + 1, by omega, by go_num, HD6.out, below_row HB.out HG6.out HG.out HB.out.size⟩
      case measure => simp [intOf]; omega
    · obtain rfl : k = n3 := by omega
      rw [List.take_of_length_le (by rw [← HN.out, ← HN3.out]; exact Nat.le_refl _)] at hD
      obtain ⟨I, hI⟩ : ∃ I, sumS ls.flatten = I := ⟨_, rfl⟩
      have IL : I.length = 32 := by rw [← hI]; exact sum_len _
      have hbw : Below w.heap.size w wr := B3.out.trans (hbel.mono B3.out.size)
      have co := fun W (hW : Below W0.heap.size W0 W) => of_any A3 k c3 ls W ((HT3.out.below hW).has (HO3.out.below hW)) (by omega) (by have := HFL.out; omega)
      have ck := fun W (hW : Below W0.heap.size W0 W) (hb : Below w.heap.size w W) => allKept_any A3 A k c3 n c _ hs3 ls W (HO3.out.below hW) (HT3.out.below hW) (HS.out.on hb) hn (by have := HFL.out; omega)
      have cro := rof_any A n c ls wr (HS.out.on hbw) (by omega) (by have := HFL.out; omega)
      have cs := fun g W h => sum_any g ls.flatten W h (by have := HFL.out; omega)
      have cl := fun g W h => len_any g ls.flatten W h (by have := HFL.out; omega)
      rw [hI] at co cro cs
      rw [HNN.out] at cl
      obtain ⟨D, hD2⟩ : ∃ D, ls.flatten = D := ⟨_, rfl⟩
      rw [hD2] at hD cs cl
      have HCRO := Lib.hid cro
      have HDR := Lib.hid hD
      have HBL := Lib.hid hbel
      have HBW := Lib.hid hbw
      have HIL := Lib.hid IL
      have HCO : Hid (∀ W xb, AllS w W0 W xb g I D → _) := Lib.hid (fun W xb (hS : AllS w W0 W xb g I D) => co W hS.t)
      have HCS : Hid (∀ W xb, AllS w W0 W xb g I D → _) := Lib.hid (fun W xb (hS : AllS w W0 W xb g I D) => cs g W hS.d)
      have HCL : Hid (∀ W xb, AllS w W0 W xb g I D → _) := Lib.hid (fun W xb (hS : AllS w W0 W xb g I D) => cl g W hS.d)
      have HCT : Hid (∀ W xb, AllS w W0 W xb g I D → _) := Lib.hid (fun W xb (hS : AllS w W0 W xb g I D) => HSN.out W hS.b)
      have HCK : Hid (∀ W xb, AllS w W0 W xb g I D → _) := Lib.hid (fun W xb (hS : AllS w W0 W xb g I D) => ck W hS.t hS.b)
      have hiv : (Try.prog.info? 31).map (·.size) = some (cellsB I).toArray.size := by rw [cellsB_size, IL]; exact infoID
      have hz3 : (cellsB (zer 32)).toArray.size = (cellsB I).toArray.size := by rw [cellsB_size, cellsB_size, IL, zer_len]
      have HIV := Lib.hid hiv
      have HZ3 := Lib.hid hz3
      clear hD hbel hbw hI co ck cro cs cl hD2 hiv hz3 IL HD4 B4
      go_upto_region 12 with (first
        | (go_at_call 14; refine HCRO.out.mono ?_; rintro e w7 ⟨rfl, b7⟩
           have B7 := Lib.hid b7
           clear b7)
        | (refine wpList_store_row rfl 31 (.tmp 6) (.tmp 33) rfl w7.heap.size (cellsB I).toArray rfl rfl 31 _ (heap_alloc_new w7 _) HIV.out HZ3.out (cellsB_ones _) ?_))
      generalize hw8 : World.setRow _ _ _ = w8
      obtain ⟨xb, hxb⟩ : ∃ xb, w7.heap.size = xb := ⟨_, rfl⟩
      have hSS : AllS w W0 w8 xb g I D := by
        rw [← hw8, ← hxb]
        have h78 : Below w7.heap.size w7 ((w7.alloc (.cells (cellsB (zer 32)).toArray 31)).setRow w7.heap.size (cellsB I).toArray) := below_setRow ((Below.refl _ _).alloc (Nat.le_refl _) _) (Nat.le_refl _) _
        have hwr8 := B7.out.trans (h78.mono B7.out.size)
        exact ⟨setRow_heap _ _ _ _ 31 _ (heap_alloc_new w7 _), HDR.out.below hwr8 HDR.out.lt, HBW.out.trans (hwr8.mono HBW.out.size), HBL.out.trans (hwr8.mono HBL.out.size)⟩
      rw [hxb]
      have SS := Lib.hid hSS
      have IL := HIL.out
      have HCO := Lib.hid (fun W => HCO.out W xb)
      have HCS := Lib.hid (fun W => HCS.out W xb)
      have HCL := Lib.hid (fun W => HCL.out W xb)
      have HCT := Lib.hid (fun W => HCT.out W xb)
      have HCK := Lib.hid (fun W => HCK.out W xb)
      have hwu : IntKind.u64.wrap (N : Int) = (N : Int) := by rw [IntKind.wrap_u64]; omega
      clear hSS hw8 hxb
      refine wp_region_held_drew (S := fun W => AllS w W0 W xb g I D) (by kernel_rfl) SS.out.drew (fun hHeld => ?_)
      refine wpAnyH_take (i := 0) (v := ?v0) (by simp only [List.getElem?_toArray, List.getElem?_cons_succ, List.getElem?_cons_zero]; rfl) (by kernel_rfl) (by kernel_rfl) (by kernel_rfl) (by exact fun _ _ _ h => h) (Or.inl ⟨by rfl, ?h0⟩) (by assumption) ?_
      case h0 => (intro W hSw; (try dsimp only at hSw); go_simp; try with_reducible rfl)
      try simp only [Act.put, List.setIfInBounds_toArray, List.set_cons_zero, List.set_cons_succ]
      refine wpAnyH_take (i := 2) (by simp only [List.getElem?_toArray, List.getElem?_cons_succ, List.getElem?_cons_zero]; rfl) (by kernel_rfl) (by kernel_rfl) (by kernel_rfl) (by exact fun _ _ _ h => h) (yieldsIf_loadG (by rfl) 31 (.tmp 6) rfl ⟨xb, 0, none⟩ rfl (.agg (cellsB I).toArray) (fun W hW => hW.x.load IL)) (by assumption) ?_
      try simp only [Act.put, List.setIfInBounds_toArray, List.set_cons_zero, List.set_cons_succ]
      refine wpAnyH_ready (rs := [1]) (by kernel_rfl) (by simp) ?_
      refine AllReadyH.cons (by simp only [List.getElem?_toArray, List.getElem?_cons_succ, List.getElem?_cons_zero]; rfl) (fun K hK => ?_) AllReadyH.nil
      go_simp
      refine (HCO.out _ hHeld).mono ?_
      rintro e w21 ⟨rfl, hb21⟩
      have hS1 : AllS w W0 w21 xb g I D := AllS.below hHeld hb21
      refine hK _ _ hS1 (fun hH1 => ?_)
      clear hK K
      try simp only [Act.put, List.setIfInBounds_toArray, List.set_cons_zero, List.set_cons_succ]
      refine wpAnyH_take (i := 3) (by simp only [List.getElem?_toArray, List.getElem?_cons_succ, List.getElem?_cons_zero]; rfl) (by kernel_rfl) (by kernel_rfl) (by kernel_rfl) (by exact fun _ _ _ h => h) (yieldsIf_eql (by rfl) 31 31 (.tmp 35) (.tmp 36) rfl _ _ true rfl rfl (fun W => guard_id _ _ _ _ W) (fun W => eql_id_same I IL W)) (by assumption) ?_
      try simp only [Act.put, List.setIfInBounds_toArray, List.set_cons_zero, List.set_cons_succ]
      refine wpAnyH_take (i := 4) (v := ?v4) (by simp only [List.getElem?_toArray, List.getElem?_cons_succ, List.getElem?_cons_zero]; rfl) (by kernel_rfl) (by kernel_rfl) (by kernel_rfl) (by exact fun _ _ _ h => h) (Or.inl ⟨by rfl, ?h4⟩) (by assumption) ?_
      case h4 => (intro W hSw; (try dsimp only at hSw); go_simp; try with_reducible rfl)
      try simp only [Act.put, List.setIfInBounds_toArray, List.set_cons_zero, List.set_cons_succ]
      refine wpAnyH_take (i := 5) (v := ?v5) (by simp only [List.getElem?_toArray, List.getElem?_cons_succ, List.getElem?_cons_zero]; rfl) (by kernel_rfl) (by kernel_rfl) (by kernel_rfl) (by exact fun _ _ _ h => h) (Or.inl ⟨by rfl, ?h5⟩) (by assumption) ?_
      case h5 => (intro W hSw; (try dsimp only at hSw); go_simp; try with_reducible rfl)
      try simp only [Act.put, List.setIfInBounds_toArray, List.set_cons_zero, List.set_cons_succ]
      refine wpAnyH_take (i := 7) (by simp only [List.getElem?_toArray, List.getElem?_cons_succ, List.getElem?_cons_zero]; rfl) (by kernel_rfl) (by kernel_rfl) (by kernel_rfl) (by exact fun _ _ _ h => h) (yieldsIf_loadG (by rfl) 31 (.tmp 6) rfl ⟨xb, 0, none⟩ rfl (.agg (cellsB I).toArray) (fun W hW => hW.x.load IL)) (by assumption) ?_
      try simp only [Act.put, List.setIfInBounds_toArray, List.set_cons_zero, List.set_cons_succ]
      refine wpAnyH_ready (rs := [6]) (by kernel_rfl) (by simp) ?_
      refine AllReadyH.cons (by simp only [List.getElem?_toArray, List.getElem?_cons_succ, List.getElem?_cons_zero]; rfl) (fun K hK => ?_) AllReadyH.nil
      go_simp
      refine (HCS.out _ hS1).mono ?_
      rintro e w22 ⟨rfl, hb22⟩
      have hS6 : AllS w W0 w22 xb g I D := AllS.below hS1 hb22
      refine hK _ _ hS6 (fun hH6 => ?_)
      clear hK K
      try simp only [Act.put, List.setIfInBounds_toArray, List.set_cons_zero, List.set_cons_succ]
      refine wpAnyH_take (i := 8) (by simp only [List.getElem?_toArray, List.getElem?_cons_succ, List.getElem?_cons_zero]; rfl) (by kernel_rfl) (by kernel_rfl) (by kernel_rfl) (by exact fun _ _ _ h => h) (yieldsIf_eql (by rfl) 31 31 (.tmp 40) (.tmp 41) rfl _ _ true rfl rfl (fun W => guard_id _ _ _ _ W) (fun W => eql_id_same I IL W)) (by assumption) ?_
      try simp only [Act.put, List.setIfInBounds_toArray, List.set_cons_zero, List.set_cons_succ]
      refine wpAnyH_take (i := 9) (v := ?v9) (by simp only [List.getElem?_toArray, List.getElem?_cons_succ, List.getElem?_cons_zero]; rfl) (by kernel_rfl) (by kernel_rfl) (by kernel_rfl) (by exact fun _ _ _ h => h) (Or.inl ⟨by rfl, ?h9⟩) (by assumption) ?_
      case h9 => (intro W hSw; (try dsimp only at hSw); go_simp; try with_reducible rfl)
      try simp only [Act.put, List.setIfInBounds_toArray, List.set_cons_zero, List.set_cons_succ]
      refine wpAnyH_take (i := 10) (v := ?v10) (by simp only [List.getElem?_toArray, List.getElem?_cons_succ, List.getElem?_cons_zero]; rfl) (by kernel_rfl) (by kernel_rfl) (by kernel_rfl) (by exact fun _ _ _ h => h) (Or.inl ⟨by rfl, ?h10⟩) (by assumption) ?_
      case h10 => (intro W hSw; (try dsimp only at hSw); go_simp; try with_reducible rfl)
      try simp only [Act.put, List.setIfInBounds_toArray, List.set_cons_zero, List.set_cons_succ]
      refine wpAnyH_take (i := 11) (v := ?v11) (by simp only [List.getElem?_toArray, List.getElem?_cons_succ, List.getElem?_cons_zero]; rfl) (by kernel_rfl) (by kernel_rfl) (by kernel_rfl) (by exact fun _ _ _ h => h) (Or.inl ⟨by rfl, ?h11⟩) (by assumption) ?_
      case h11 => (intro W hSw; (try dsimp only at hSw); go_simp; try with_reducible rfl)
      try simp only [Act.put, List.setIfInBounds_toArray, List.set_cons_zero, List.set_cons_succ]
      refine wpAnyH_take (i := 13) (by simp only [List.getElem?_toArray, List.getElem?_cons_succ, List.getElem?_cons_zero]; rfl) (by kernel_rfl) (by kernel_rfl) (by kernel_rfl) (by exact fun _ _ _ h => h) (yieldsIf_loadG (by rfl) 31 (.tmp 6) rfl ⟨xb, 0, none⟩ rfl (.agg (cellsB I).toArray) (fun W hW => hW.x.load IL)) (by assumption) ?_
      try simp only [Act.put, List.setIfInBounds_toArray, List.set_cons_zero, List.set_cons_succ]
      refine wpAnyH_ready (rs := [12]) (by kernel_rfl) (by simp) ?_
      refine AllReadyH.cons (by simp only [List.getElem?_toArray, List.getElem?_cons_succ, List.getElem?_cons_zero]; rfl) (fun K hK => ?_) AllReadyH.nil
      go_simp
      refine (HCS.out _ hS6).mono ?_
      rintro e w23 ⟨rfl, hb23⟩
      have hS12 : AllS w W0 w23 xb g I D := AllS.below hS6 hb23
      refine hK _ _ hS12 (fun hH12 => ?_)
      clear hK K
      try simp only [Act.put, List.setIfInBounds_toArray, List.set_cons_zero, List.set_cons_succ]
      refine wpAnyH_take (i := 14) (by simp only [List.getElem?_toArray, List.getElem?_cons_succ, List.getElem?_cons_zero]; rfl) (by kernel_rfl) (by kernel_rfl) (by kernel_rfl) (by exact fun _ _ _ h => h) (yieldsIf_eql (by rfl) 31 31 (.tmp 46) (.tmp 47) rfl _ _ true rfl rfl (fun W => guard_id _ _ _ _ W) (fun W => eql_id_same I IL W)) (by assumption) ?_
      try simp only [Act.put, List.setIfInBounds_toArray, List.set_cons_zero, List.set_cons_succ]
      refine wpAnyH_take (i := 15) (v := ?v15) (by simp only [List.getElem?_toArray, List.getElem?_cons_succ, List.getElem?_cons_zero]; rfl) (by kernel_rfl) (by kernel_rfl) (by kernel_rfl) (by exact fun _ _ _ h => h) (Or.inl ⟨by rfl, ?h15⟩) (by assumption) ?_
      case h15 => (intro W hSw; (try dsimp only at hSw); go_simp; try with_reducible rfl)
      try simp only [Act.put, List.setIfInBounds_toArray, List.set_cons_zero, List.set_cons_succ]
      refine wpAnyH_take (i := 16) (v := ?v16) (by simp only [List.getElem?_toArray, List.getElem?_cons_succ, List.getElem?_cons_zero]; rfl) (by kernel_rfl) (by kernel_rfl) (by kernel_rfl) (by exact fun _ _ _ h => h) (Or.inl ⟨by rfl, ?h16⟩) (by assumption) ?_
      case h16 => (intro W hSw; (try dsimp only at hSw); go_simp; try with_reducible rfl)
      try simp only [Act.put, List.setIfInBounds_toArray, List.set_cons_zero, List.set_cons_succ]
      refine wpAnyH_take (i := 17) (v := ?v17) (by simp only [List.getElem?_toArray, List.getElem?_cons_succ, List.getElem?_cons_zero]; rfl) (by kernel_rfl) (by kernel_rfl) (by kernel_rfl) (by exact fun _ _ _ h => h) (Or.inl ⟨by rfl, ?h17⟩) (by assumption) ?_
      case h17 => (intro W hSw; (try dsimp only at hSw); go_simp; try with_reducible rfl)
      try simp only [Act.put, List.setIfInBounds_toArray, List.set_cons_zero, List.set_cons_succ]
      refine wpAnyH_take (i := 19) (v := ?v19) (by simp only [List.getElem?_toArray, List.getElem?_cons_succ, List.getElem?_cons_zero]; rfl) (by kernel_rfl) (by kernel_rfl) (by kernel_rfl) (by exact fun _ _ _ h => h) (Or.inl ⟨by rfl, ?h19⟩) (by assumption) ?_
      case h19 => (intro W hSw; (try dsimp only at hSw); go_simp; try with_reducible rfl)
      try simp only [Act.put, List.setIfInBounds_toArray, List.set_cons_zero, List.set_cons_succ]
      refine wpAnyH_ready (rs := [18]) (by kernel_rfl) (by simp) ?_
      refine AllReadyH.cons (by simp only [List.getElem?_toArray, List.getElem?_cons_succ, List.getElem?_cons_zero]; rfl) (fun K hK => ?_) AllReadyH.nil
      go_simp
      refine (HCL.out _ hS12).mono ?_
      rintro e w24 ⟨rfl, rfl⟩
      have hS18 := hS12
      refine hK _ _ hS18 (fun hH18 => ?_)
      clear hK K
      try simp only [Act.put, List.setIfInBounds_toArray, List.set_cons_zero, List.set_cons_succ]
      refine wpAnyH_ready (rs := [20]) (by kernel_rfl) (by simp) ?_
      refine AllReadyH.cons (by simp only [List.getElem?_toArray, List.getElem?_cons_succ, List.getElem?_cons_zero]; rfl) (fun K hK => ?_) AllReadyH.nil
      go_simp
      refine (HCT.out _ hS18).mono ?_
      rintro e w25 ⟨rfl, rfl⟩
      have hS20 := hS18
      refine hK _ _ hS20 (fun hH20 => ?_)
      clear hK K
      try simp only [Act.put, List.setIfInBounds_toArray, List.set_cons_zero, List.set_cons_succ]
      refine wpAnyH_take (i := 21) (v := ?v21) (by simp only [List.getElem?_toArray, List.getElem?_cons_succ, List.getElem?_cons_zero]; rfl) (by kernel_rfl) (by kernel_rfl) (by kernel_rfl) (by exact fun _ _ _ h => h) (Or.inl ⟨by rfl, ?h21⟩) (by assumption) ?_
      case h21 => (intro W hSw; (try dsimp only at hSw); go_simp; try with_reducible rfl)
      try simp only [Act.put, List.setIfInBounds_toArray, List.set_cons_zero, List.set_cons_succ]
      refine wpAnyH_take (i := 22) (v := ?v22) (by simp only [List.getElem?_toArray, List.getElem?_cons_succ, List.getElem?_cons_zero]; rfl) (by kernel_rfl) (by kernel_rfl) (by kernel_rfl) (by exact fun _ _ _ h => h) (Or.inl ⟨by rfl, ?h22⟩) (by assumption) ?_
      case h22 => (intro W hSw; (try dsimp only at hSw); go_simp; try with_reducible rfl)
      try simp only [Act.put, List.setIfInBounds_toArray, List.set_cons_zero, List.set_cons_succ]
      refine wpAnyH_take (i := 23) (v := ?v23) (by simp only [List.getElem?_toArray, List.getElem?_cons_succ, List.getElem?_cons_zero]; rfl) (by kernel_rfl) (by kernel_rfl) (by kernel_rfl) (by exact fun _ _ _ h => h) (Or.inl ⟨by rfl, ?h23⟩) (by assumption) ?_
      case h23 => (intro W hSw; (try dsimp only at hSw); go_simp; try with_reducible rfl)
      try simp only [Act.put, List.setIfInBounds_toArray, List.set_cons_zero, List.set_cons_succ]
      refine wpAnyH_take (i := 24) (v := ?v24) (by simp only [List.getElem?_toArray, List.getElem?_cons_succ, List.getElem?_cons_zero]; rfl) (by kernel_rfl) (by kernel_rfl) (by kernel_rfl) (by exact fun _ _ _ h => h) (Or.inl ⟨by rfl, ?h24⟩) (by assumption) ?_
      case h24 => (intro W hSw; (try dsimp only at hSw); go_simp; try with_reducible rfl)
      try simp only [Act.put, List.setIfInBounds_toArray, List.set_cons_zero, List.set_cons_succ]
      refine wpAnyH_take (i := 25) (v := ?v25) (by simp only [List.getElem?_toArray, List.getElem?_cons_succ, List.getElem?_cons_zero]; rfl) (by kernel_rfl) (by kernel_rfl) (by kernel_rfl) (by exact fun _ _ _ h => h) (Or.inl ⟨by rfl, ?h25⟩) (by assumption) ?_
      case h25 => (intro W hSw; (try dsimp only at hSw); go_simp; try with_reducible rfl)
      try simp only [Act.put, List.setIfInBounds_toArray, List.set_cons_zero, List.set_cons_succ]
      refine wpAnyH_take (i := 26) (v := ?v26) (by simp only [List.getElem?_toArray, List.getElem?_cons_succ, List.getElem?_cons_zero]; rfl) (by kernel_rfl) (by kernel_rfl) (by kernel_rfl) (by exact fun _ _ _ h => h) (Or.inl ⟨by rfl, ?h26⟩) (by assumption) ?_
      case h26 => (intro W hSw; (try dsimp only at hSw); go_simp; try with_reducible rfl)
      try simp only [Act.put, List.setIfInBounds_toArray, List.set_cons_zero, List.set_cons_succ]
      refine wpAnyH_ready (rs := [27]) (by kernel_rfl) (by simp) ?_
      refine AllReadyH.cons (by simp only [List.getElem?_toArray, List.getElem?_cons_succ, List.getElem?_cons_zero]; rfl) (fun K hK => ?_) AllReadyH.nil
      go_simp
      refine (HCK.out _ hS20).mono ?_
      rintro e w26 ⟨rfl, hb26⟩
      have hS27 : AllS w W0 w26 xb g I D := AllS.below hS20 hb26
      refine hK _ _ hS27 (fun hH27 => ?_)
      clear hK K
      try simp only [Act.put, List.setIfInBounds_toArray, List.set_cons_zero, List.set_cons_succ]
      refine wpAnyH_take (i := 28) (v := ?v28) (by simp only [List.getElem?_toArray, List.getElem?_cons_succ, List.getElem?_cons_zero]; rfl) (by kernel_rfl) (by kernel_rfl) (by kernel_rfl) (by exact fun _ _ _ h => h) (Or.inl ⟨by rfl, ?h28⟩) (by assumption) ?_
      case h28 => (intro W hSw; (try dsimp only at hSw); go_simp; try with_reducible rfl)
      try simp only [Act.put, List.setIfInBounds_toArray, List.set_cons_zero, List.set_cons_succ]
      refine wpAnyH_take (i := 29) (v := ?v29) (by simp only [List.getElem?_toArray, List.getElem?_cons_succ, List.getElem?_cons_zero]; rfl) (by kernel_rfl) (by kernel_rfl) (by kernel_rfl) (by exact fun _ _ _ h => h) (Or.inl ⟨by rfl, ?h29⟩) (by assumption) ?_
      case h29 => (intro W hSw; (try dsimp only at hSw); go_simp; try with_reducible rfl)
      try simp only [Act.put, List.setIfInBounds_toArray, List.set_cons_zero, List.set_cons_succ]
      refine wpAnyH_done (by kernel_rfl) ?_ _
      go_wp2_with fail
      go_ret
      exact ⟨rfl, hS27.b⟩

set_option maxRecDepth 100000 in
set_option maxHeartbeats 400000 in
theorem all_law (A : Option Addr) (n c : Nat) (ls : List (List UInt8)) (w : World) (h : HasBB w w.heap.size A n ls) (hc : n ≤ c) (hcm : c ≤ maxLen) :
    Calls Try.prog 3 #[.slice A n c] w (RetTrue w) := by
  unfold maxLen at hcm
  by_cases hn : n ≤ 8192
  · by_cases hf : ls.flatten.length ≤ 8192
    · exact all_ok A n c ls w h hn hf hc
    · have HS := Lib.hid h
      clear h
      go_enter Try.func3, Try.ntmps3
      go_wp2_with (first
        | (go_at_call 9; refine (begun_any _).mono ?_; rintro e w1 ⟨rfl, b1⟩
           have B1 := Lib.hid b1
           clear b1)
        | (go_at_call 10; refine (lsum_any A n c 8192 ls _ (HS.out.on B1.out) (by omega) (by omega)).mono ?_; rintro e w2 ⟨⟨r, hr, rfl⟩, rfl⟩
           have hr1 : 8192 < r := hr.2.1 (by omega)
           have hr2 := hr.2.2
           clear hr))
      go_ret
      exact ⟨rfl, B1.out⟩
  · clear h
    go_enter Try.func3, Try.ntmps3
    go_wp2_with (go_at_call 9; refine (begun_any _).mono ?_; rintro e w1 ⟨rfl, b1⟩)
    go_ret
    exact ⟨rfl, b1⟩

/-- A list of lists of bytes that came in. -/
theorem rows_open {H : Type} {enc : TypeId × Value → H} {W : World} {held : Bool} {fuel len cap : Nat} {a : Option Addr} {x : DataW H × List MemPlace}
    (h : DataW.trod enc Try.prog W 0 (fun _ => true) held fuel 22 [.slice a len cap] = some x) : ∃ ls, HasBB W W.heap.size a len ls ∧ len ≤ cap ∧ cap ≤ maxLen := by
  rcases Go.Deep.open_int_rows Try.underlying22 Try.underlying29 Try.underlying5 (by kernel_rfl) (by kernel_rfl) h with ⟨hcs, _⟩ | ⟨b, l2, c2, A, L, C, Z, hcs, _, hl, hm, _, hrow⟩
  · simp only [List.cons.injEq, Value.slice.injEq, and_true] at hcs
    obtain ⟨rfl, rfl, rfl⟩ := hcs
    exact ⟨[], ⟨rfl, fun h => absurd h (by simp)⟩, Nat.le_refl _, by simp⟩
  · simp only [List.cons.injEq, Value.slice.injEq, and_true] at hcs
    obtain ⟨rfl, rfl, rfl⟩ := hcs
    have each : ∀ r, ∃ l : List UInt8, r < len → HasB W W.heap.size (A r) (L r) l := by
      intro r
      by_cases hr : r < len
      · obtain ⟨_, h1, h2, h3, h4, h5, h6⟩ := hrow r (by omega)
        obtain ⟨l, hl2, _⟩ := has_of_row (w := W) (a := A r) (len := L r) (cap := C r) (zs := Z r) (by
          rcases hA : A r with _ | y
          · have h7 := h5 hA
            exact .inl ⟨rfl, by omega, h7, List.eq_nil_of_length_eq_zero (by omega)⟩
          · exact .inr ⟨y, rfl, h1, h2, h3, fun i hi => (h6 y hA).2 i (by omega), h4⟩)
        exact ⟨l, fun _ => hl2⟩
      · exact ⟨[], fun q => absurd q hr⟩
    refine ⟨(List.range len).map fun r => Classical.choose (each r), ⟨by simp, fun hpos => ?_⟩, hl, hm⟩
    obtain ⟨g, o, s⟩ := b
    have c0 := (hrow 0 (by omega)).1
    have hs : s = none := by
      have := World.cell?_spot c0
      simpa [Addr.add] using this
    subst hs
    refine ⟨g, o, rfl, ?_, fun i l hi => ?_⟩
    · have := World.block_lt_of_cell? W _ c0
      simpa [Addr.add] using this
    · have hlt : i < len := by
        have := (List.getElem?_eq_some_iff.1 hi).1
        simpa using this
      simp only [List.getElem?_map, List.getElem?_range hlt, Option.map_some, Option.some.injEq] at hi
      subst hi
      obtain ⟨e1, h1, _⟩ := hrow i (by omega)
      rw [Addr.add_lit] at e1
      exact ⟨A i, L i, C i, e1, h1, Classical.choose_spec (each i) hlt⟩
end Go.Proofs.Ytlgjoeabogbknaa
