/-
  Own work.
-/
import Derived.Test.YthoebjekkfhhgaaGreatCp9
import Derived.Test.YthoebjekkfhhgaaGreatK3
set_option linter.unusedVariables false
set_option linter.unusedSimpArgs false
set_option maxRecDepth 100000
set_option maxHeartbeats 8000000
namespace Go.Proofs.YthoebjekkfhhgaaGreat
open Go.RowKit Go.Maps
theorem hasB_zer (w : World) (z : Nat) : HasB (w.alloc (.cells (cellsB (zer z)).toArray 5)) (w.alloc (.cells (cellsB (zer z)).toArray 5)).heap.size (some ⟨w.heap.size, 0, none⟩) z (zer z) := by
 have h := HasB.row w (zer z) 5
 have e : (zer z).length = z := by simp [zer]
 rw [e] at h
 exact h
theorem wrap8 (i : Nat) : IntKind.u8.wrap (i : Int) = ((UInt8.ofNat i).toNat : Int) := by
 rw [IntKind.wrap_u8, UInt8.toNat_ofNat']
 omega
theorem quo_run {x y z : Nat} (hy : y ≠ 0) (hx : x <= 4294967296) (h : x / y = z) (w : World) : (binOp .quo 3 (.int .i64 (x : Int)) (.int .i64 (y : Int))).run Tryz.prog w = .ok (.int .i64 (z : Int)) w := by
 have h0 : ¬ (y : Int) = 0 := by omega
 have h1 : z <= x := by rw [<- h]; exact Nat.div_le_self x y
 have e : (x : Int) / (y : Int) = (z : Int) := by rw [<- h]; rfl
 have e2 : IntKind.i64.wrap (z : Int) = (z : Int) := by rw [IntKind.wrap_i64]; omega
 clear h
 go_simp
 first | exact e2 | (rw [e]; exact e2) | skip
theorem add46_run {x z : Nat} (hz : z <= 4294967296) (h : x + 46 = z) (w : World) : (binOp .add 3 (.int .i64 (x : Int)) (.int .i64 46)).run Tryz.prog w = .ok (.int .i64 (z : Int)) w := by
 have e : (x : Int) + 46 = (z : Int) := by omega
 go_simp
 rw [IntKind.wrap_i64]; omega
theorem rem_run {x y z : Nat} (hy : y ≠ 0) (hx : x <= 4294967296) (h : x % y = z) (w : World) : (binOp .rem 3 (.int .i64 (x : Int)) (.int .i64 (y : Int))).run Tryz.prog w = .ok (.int .i64 (z : Int)) w := by
 subst h
 have h0 : ¬ (y : Int) = 0 := by omega
 go_simp
 exact Int.tmod_eq_emod_of_nonneg (by omega)
theorem mul_run {x y z : Nat} (hz : z <= 4294967296) (h : x * y = z) (w : World) : (binOp .mul 3 (.int .i64 (x : Int)) (.int .i64 (y : Int))).run Tryz.prog w = .ok (.int .i64 (z : Int)) w := by
 have e : (x : Int) * (y : Int) = (z : Int) := by rw [<- h]; simp
 go_simp
 rw [IntKind.wrap_i64]; omega
theorem add_run {x y z : Nat} (hz : z <= 4294967296) (h : x + y = z) (w : World) : (binOp .add 3 (.int .i64 (x : Int)) (.int .i64 (y : Int))).run Tryz.prog w = .ok (.int .i64 (z : Int)) w := by
 have e : (x : Int) + (y : Int) = (z : Int) := by omega
 go_simp
 rw [IntKind.wrap_i64]; omega
theorem neq_run {x : Int} (w : World) : (binOp .neq 3 (.int .i64 x) (.int .i64 x)).run Tryz.prog w = .ok (.bool false) w := by
 go_simp
theorem guard_any (b : BinOp) (X Y : Value) (x y : Operand) (w : World) (h : b ≠ .eql /\ b ≠ .neq) : (eqGuard b 3 x y X Y).run Tryz.prog w = .ok () w := by
 unfold eqGuard; simp [h.1, h.2]
theorem guard_neqI (a b : Int) (x y : Operand) (w : World) : (eqGuard .neq 3 x y (.int .i64 a) (.int .i64 b)).run Tryz.prog w = .ok () w := by
 unfold eqGuard; simp
theorem packfull_law (Z : DK) (K : FK) (a0 a1 : Int) (w : World) (h0 : -9223372036854775808 <= a0 /\ a0 <= 9223372036854775807) (h1 : -9223372036854775808 <= a1 /\ a1 <= 9223372036854775807) :
 Calls Tryz.prog 6 #[.int .i64 a0, .int .i64 a1] w (RetTrue w) := by
 have CG := lH (fun W => begun11_any Z K W)
 have CB := lH (fun W n hb h1 h2 => begun_tx Z w W hb n 60 h1 h2 (by omega) (by omega))
 have CP0 := lH (fun W => place_any a0 60 W h0 (by omega) (by omega))
 have CP1 := lH (fun W => place_any a1 4201 W h1 (by omega) (by omega))
 have RS := lH rsize_any
 clear h0 h1
 go_enter Tryz.func6, Tryz.ntmps6
 go_upto_region 8 with (first
  | (go_at_call 7; refine (CG.out _).mono ?_; rintro e w1 ⟨rfl, b1⟩
     have B1 := lH b1
     clear b1)
  | (go_at_call_of 8 (Value.int .i64 a0); refine (CP0.out _).mono ?_; rintro e w2 ⟨⟨x0, hx0, rfl⟩, rfl⟩
     have en : (100 : Int) + (x0 : Int) = ((100 + x0 : Nat) : Int) := by omega
     have EN := lH en
     clear en)
  | (go_at_call_of 8 (Value.int .i64 a1); refine (CP1.out _).mono ?_; rintro e w3 ⟨⟨z, hz, rfl⟩, rfl⟩)
  | (go_at_call 9; rw [EN.out]; refine (CB.out _ (100 + x0) B1.out (by omega) (by omega) (by omega)).mono ?_; rintro e w4 ⟨g, gd, gp, gt, rfl, t4⟩
     have T4 := lH (t3_begun t4)
     clear t4))
 obtain ⟨n, hn⟩ : ∃ n, 100 + x0 = n := ⟨_, rfl⟩
 have e0 : (100 : Int) + (x0 : Int) = (n : Int) := by omega
 rw [hn] at T4
 rw [e0]
 have hn1 : 100 <= n := by omega
 have hn2 : n < 160 := by omega
 clear hn hx0 EN CB CP0 CP1 CG e0
 obtain ⟨S, hS⟩ : ∃ S, z + 46 = S := ⟨_, rfl⟩
 have hz1 : z <= 4200 := by omega
 have RS2 : Hid (∀ W, Calls Tryz.prog 33 #[.int .i64 (z : Int)] W fun e w' => e = .returned (.int .i64 (S : Int)) /\ W = w') := lH (fun W => by have := RS.out z hz1 W; rwa [hS] at this)
 obtain ⟨ea, hea⟩ : ∃ ea, 8192 / S = ea := ⟨_, rfl⟩
 obtain ⟨pk, hpk⟩ : ∃ pk, (n - 66) / 16 = pk := ⟨_, rfl⟩
 have q1 : (8192 : Int) / (S : Int) = (ea : Int) := by rw [<- hea]; rfl
 have q2 : ((n : Int) - 62 - 4) / 16 = (pk : Int) := by omega
 have s1 : (S : Int) ≠ 0 := by omega
 have s2 : 46 <= S := by omega
 have s3 : S <= 4246 := by omega
 have hea1 : 1 <= ea := by rw [<- hea]; exact (Nat.le_div_iff_mul_le (by omega)).2 (by omega)
 have hea2 : ea <= 178 := by rw [<- hea]; exact Nat.le_of_lt_succ ((Nat.div_lt_iff_lt_mul (by omega)).2 (by omega))
 have hea3 : ea * S <= 8192 := by rw [<- hea]; exact Nat.div_mul_le_self 8192 S
 have hea4 : 8192 < (ea + 1) * S := by rw [<- hea]; have := Nat.lt_div_mul_add (a := 8192) (b := S) (by omega); rw [Nat.succ_mul]; exact this
 have hpk1 : pk <= 5 := by omega
 obtain ⟨T, hT⟩ : ∃ T, ea * pk = T := ⟨_, rfl⟩
 have hT1 : T <= 890 := by rw [<- hT]; exact Nat.mul_le_mul hea2 hpk1
 have q3 : (ea : Int) * (pk : Int) = (T : Int) := by rw [<- hT]; simp
 clear RS
 go_upto_region 11 with (first
  | (go_at_call 33; refine (RS2.out _).mono ?_; rintro e w5 ⟨rfl, rfl⟩))
 rw [q1, q2]
 clear RS2 q1 q2
 go_loopw [6, 9, 10, 11] (fun t i x e wr => ∃ (k gt' : Nat) (F : Nat -> List UInt8), k <= T /\ i = .int .i64 (k : Int) /\ t = .pointer (some ⟨gt', 0, none⟩) /\ T3 Z w wr g gd gp gt' n (3 * n + 45 + k * (n + 43)) 60 0 0 F F (fun _ => False) /\ FullS (n - 2 - 60) S ea k F) (fun _ i _ _ _ => T + 1 - (Go.RowKit.intOf i).toNat)
 case atStart => exact ⟨0, gt, _, by omega, rfl, rfl, T4.out.more (by omega) (Nat.le_refl _) (Nat.le_refl _), FullS.nil (by omega) hea1⟩
 case round =>
  clear T4
  obtain ⟨i, gt', F, hi, rfl, rfl, qt, qf⟩ := hrel
  have QT := lH qt
  have QF := lH qf
  clear qt qf
  have hiT : (i : Int) <= (T : Int) := by omega
  by_cases h4 : i < 400
  · obtain ⟨y, hy⟩ : ∃ y : UInt8, UInt8.ofNat i = y := ⟨_, rfl⟩
    have KYH : Hid (∀ (W : World), Calls Tryz.prog 17 #[.int .u8 (IntKind.u8.wrap (i : Int))] W fun e w' => e = .returned (.agg (cellsB (keyL y)).toArray) /\ Below W.heap.size W w') := lH (fun W => by rw [wrap8 i, hy]; exact key_any y W)
    have hV : 3 * n + 45 + i * (n + 43) <= 200000 := by have : i * (n + 43) <= 400 * 203 := Nat.mul_le_mul (by omega) (by omega); omega
    have HV := lH hV
    by_cases hlast : i = T
    · subst hlast
      have CADD := lH (full_last (Z := Z) (w0 := w) (g := g) (gd := gd) (gp := gp) (gt := gt') (n := n) (V := 3 * n + 45 + i * (n + 43)) (r := 60) (q := 0) (c := 0) (F := F) (C := F) K (by omega) (by omega) (by omega) (keyL y) (keyL_len y) z S ea pk hz1 hS.symm hea4 (by omega) (by omega) hea1 (by rw [hT]; exact QF.out))
      clear hV
      go_upto_region 13 with fail
      obtain ⟨wd, hwd⟩ : ∃ W, wr.drew = W := ⟨_, rfl⟩
      have S0 : Hid (ASt Z w wd g gd gp gt' n (3 * n + 45 + i * (n + 43)) 60 0 0 F F (fun _ => False) z (zer z) none none wd) := lH (ASt.start (hwd ▸ QT.out.up1 (Below.refl wr.heap.size wr).drew))
      have HE : Hid (∀ k, (fun _ : Nat => False) k -> k < wd.heap.size) := lH (fun k h => h.elim)
      refine wp_region_held_drew (S := fun _ => True) (by kernel_rfl) trivial (fun hHeld => ?_)
      rw [hwd]
      refine via2 (A := ?A1) (X := fun p s W => ∃ F', (∃ P, PInv (n - 2 - 60) F' P /\ NoPk P (pk : Int)) /\ W.heap[p]? = some (plB 0 0 0) /\ T3 Z w W g gd gp gt' n (3 * n + 45 + i * (n + 43)) 60 4300 12 F' F (fun k => False \/ k = p) /\ Only (fun k => ¬ False) wd W) ?main1 ?hR1
      case main1 =>
       refine tk9 (i := 0) (h := ?_)
       try simp only [aP,aN,aS,aZ,aC]
       refine tk9 (i := 1) (h := ?_)
       try simp only [aP,aN,aS,aZ,aC]
       refine tk9 (i := 2) (h := ?_)
       try simp only [aP,aN,aS,aZ,aC]
       refine tk9 (i := 4) (h := ?_)
       try simp only [aP,aN,aS,aZ,aC]
       refine wpAnyH_ready (rs := [3, 5, 10]) (by kernel_rfl) (by simp) ?_
       refine rc9 (h := fun K hK => ?_) (hs := (rc9 (h := fun K hK => ?_) (hs := (rc9 (h := fun K hK => ?_) (hs := AllReadyH.nil)))))
       · go_simp
         refine (KYH.out _).mono ?_
         rintro e wk5 ⟨rfl, bk⟩
         have SK6 := lH (S0.out.below bk)
         clear bk
         refine hK _ _ trivial (fun hHx => ?_)
         clear hK K
         try simp only [aP,aN,aS,aZ,aC]
         refine wpAnyH_ready (rs := [5, 10]) (by kernel_rfl) (by simp) ?_
         refine rc9 (h := fun K hK => ?_) (hs := (rc9 (h := fun K hK => ?_) (hs := AllReadyH.nil)))
         · refine step_mkU8 (by rfl) (.tmp 52) (.tmp 52) rfl (z : Int) z rfl rfl rfl (by omega) ?_
           have SM8 := lH (SK6.out.data ((Below.refl wk5.heap.size wk5).alloc (Nat.le_refl _) (.cells (cellsB (zer z)).toArray 5)) (hasB_zer wk5 z) (fun x hx => by injection hx with hx; rw [<- hx]; exact ⟨Nat.le_refl _, by simp⟩))
           obtain ⟨wm7, hw2⟩ : ∃ W, wk5.alloc (.cells (cellsB (zer z)).toArray 5) = W := ⟨_, rfl⟩
           obtain ⟨sb9, hs2⟩ : ∃ s, wk5.heap.size = s := ⟨_, rfl⟩
           rw [hw2, hs2] at SM8
           rw [hw2]
           simp only [hs2]
           clear hw2 hs2
           refine hK _ _ trivial (fun hHx => ?_)
           clear hK K
           try simp only [aP,aN,aS,aZ,aC]
           refine wpAnyH_ready (rs := [6, 10]) (by kernel_rfl) (by simp) ?_
           refine rc9 (h := fun K hK => ?_) (hs := (rc9 (h := fun K hK => ?_) (hs := AllReadyH.nil)))
           · go_simp
             refine (CADD.out _ _ _ SM8.out.t (SM8.out.m _ rfl) (fun a ha _ => .inr (.inl ⟨a, by rw [ha], rfl⟩))).mono ?_
             rintro e wa10 ⟨FA12, ⟨rfl, t', y'⟩, res⟩
             have SA11 := lH (SM8.out.call t' y')
             have RA13 := lH res
             clear t' y' res
             refine hK _ _ trivial (fun hHx => ?_)
             clear hK K
             try simp only [aP,aN,aS,aZ,aC]
             refine tk9 (i := 7) (h := ?_)
             try simp only [aP,aN,aS,aZ,aC]
             refine tk9 (i := 8) (h := ?_)
             try simp only [aP,aN,aS,aZ,aC]
             refine tk9 (i := 9) (h := ?_)
             try simp only [aP,aN,aS,aZ,aC]
             refine rd9 (i := 10) (h := fun K hK => ?_)
             go_simp
             have SP18 := lH SA11.out.box
             obtain ⟨wp17, hw2⟩ : ∃ W, wa10.alloc (.cells #[.int .i64 0, .int .i64 0, .int .i64 0] 44) = W := ⟨_, rfl⟩
             obtain ⟨pb19, hp2⟩ : ∃ s, wa10.heap.size = s := ⟨_, rfl⟩
             rw [hw2, hp2] at SP18
             have NPpb19 : Hid (wd.heap.size <= pb19) := lH (by rw [<- hp2]; exact SA11.out.y.size)
             rw [hw2]
             simp only [hp2]
             clear hw2 hp2
             refine hK _ _ trivial (fun hHx => ?_)
             clear hK K
             try simp only [aP,aN,aS,aZ,aC]
             have fin := SP18.out.stored HE.out NPpb19.out 0 0 0
             refine rd9 (i := 11) (h := fun K hK => ?_)
             refine step_store_row8 (by rfl) 44 (.tmp 10) (.tmp 55) rfl pb19 (plC 0 0 0).toArray rfl rfl 44 _ (SP18.out.p pb19 rfl) infoPlace rfl (pl_ones _ _ _) ?_
             refine hK _ _ trivial (fun hHx => ?_)
             clear hK K
             try simp only [aP,aN,aS,aZ,aC]
             refine rd9 (i := 12) (h := fun K hK => ?_)
             go_simp
             refine hK _ _ trivial (fun hHx => ?_)
             clear hK K
             try simp only [aP,aN,aS,aZ,aC]
             refine wpAnyH_done (by kernel_rfl) (Via.mk ⟨pb19, sb9, ?_, FA12, RA13.out, fin.1, fin.2.1, fin.2.2⟩) _
             rfl
           · go_simp
             have SP21 := lH SM8.out.box
             obtain ⟨wp20, hw2⟩ : ∃ W, wm7.alloc (.cells #[.int .i64 0, .int .i64 0, .int .i64 0] 44) = W := ⟨_, rfl⟩
             obtain ⟨pb22, hp2⟩ : ∃ s, wm7.heap.size = s := ⟨_, rfl⟩
             rw [hw2, hp2] at SP21
             have NPpb22 : Hid (wd.heap.size <= pb22) := lH (by rw [<- hp2]; exact SM8.out.y.size)
             rw [hw2]
             simp only [hp2]
             clear hw2 hp2
             refine hK _ _ trivial (fun hHx => ?_)
             clear hK K
             try simp only [aP,aN,aS,aZ,aC]
             refine rd9 (i := 6) (h := fun K hK => ?_)
             go_simp
             refine (CADD.out _ _ _ SP21.out.t (SP21.out.m _ rfl) (fun a ha _ => .inr (.inl ⟨a, by rw [ha], rfl⟩))).mono ?_
             rintro e wa23 ⟨FA25, ⟨rfl, t', y'⟩, res⟩
             have SA24 := lH (SP21.out.call t' y')
             have RA26 := lH res
             clear t' y' res
             refine hK _ _ trivial (fun hHx => ?_)
             clear hK K
             try simp only [aP,aN,aS,aZ,aC]
             refine tk9 (i := 7) (h := ?_)
             try simp only [aP,aN,aS,aZ,aC]
             refine tk9 (i := 8) (h := ?_)
             try simp only [aP,aN,aS,aZ,aC]
             refine tk9 (i := 9) (h := ?_)
             try simp only [aP,aN,aS,aZ,aC]
             have fin := SA24.out.stored HE.out NPpb22.out 0 0 0
             refine rd9 (i := 11) (h := fun K hK => ?_)
             refine step_store_row8 (by rfl) 44 (.tmp 10) (.tmp 55) rfl pb22 (plC 0 0 0).toArray rfl rfl 44 _ (SA24.out.p pb22 rfl) infoPlace rfl (pl_ones _ _ _) ?_
             refine hK _ _ trivial (fun hHx => ?_)
             clear hK K
             try simp only [aP,aN,aS,aZ,aC]
             refine rd9 (i := 12) (h := fun K hK => ?_)
             go_simp
             refine hK _ _ trivial (fun hHx => ?_)
             clear hK K
             try simp only [aP,aN,aS,aZ,aC]
             refine wpAnyH_done (by kernel_rfl) (Via.mk ⟨pb22, sb9, ?_, FA25, RA26.out, fin.1, fin.2.1, fin.2.2⟩) _
             rfl
         · go_simp
           have SP31 := lH SK6.out.box
           obtain ⟨wp30, hw2⟩ : ∃ W, wk5.alloc (.cells #[.int .i64 0, .int .i64 0, .int .i64 0] 44) = W := ⟨_, rfl⟩
           obtain ⟨pb32, hp2⟩ : ∃ s, wk5.heap.size = s := ⟨_, rfl⟩
           rw [hw2, hp2] at SP31
           have NPpb32 : Hid (wd.heap.size <= pb32) := lH (by rw [<- hp2]; exact SK6.out.y.size)
           rw [hw2]
           simp only [hp2]
           clear hw2 hp2
           refine hK _ _ trivial (fun hHx => ?_)
           clear hK K
           try simp only [aP,aN,aS,aZ,aC]
           refine rd9 (i := 5) (h := fun K hK => ?_)
           refine step_mkU8 (by rfl) (.tmp 52) (.tmp 52) rfl (z : Int) z rfl rfl rfl (by omega) ?_
           have SM34 := lH (SP31.out.data ((Below.refl wp30.heap.size wp30).alloc (Nat.le_refl _) (.cells (cellsB (zer z)).toArray 5)) (hasB_zer wp30 z) (fun x hx => by injection hx with hx; rw [<- hx]; exact ⟨Nat.le_refl _, by simp⟩))
           obtain ⟨wm33, hw2⟩ : ∃ W, wp30.alloc (.cells (cellsB (zer z)).toArray 5) = W := ⟨_, rfl⟩
           obtain ⟨sb35, hs2⟩ : ∃ s, wp30.heap.size = s := ⟨_, rfl⟩
           rw [hw2, hs2] at SM34
           rw [hw2]
           simp only [hs2]
           clear hw2 hs2
           refine hK _ _ trivial (fun hHx => ?_)
           clear hK K
           try simp only [aP,aN,aS,aZ,aC]
           refine rd9 (i := 6) (h := fun K hK => ?_)
           go_simp
           refine (CADD.out _ _ _ SM34.out.t (SM34.out.m _ rfl) (fun a ha _ => .inr (.inl ⟨a, by rw [ha], rfl⟩))).mono ?_
           rintro e wa36 ⟨FA38, ⟨rfl, t', y'⟩, res⟩
           have SA37 := lH (SM34.out.call t' y')
           have RA39 := lH res
           clear t' y' res
           refine hK _ _ trivial (fun hHx => ?_)
           clear hK K
           try simp only [aP,aN,aS,aZ,aC]
           refine tk9 (i := 7) (h := ?_)
           try simp only [aP,aN,aS,aZ,aC]
           refine tk9 (i := 8) (h := ?_)
           try simp only [aP,aN,aS,aZ,aC]
           refine tk9 (i := 9) (h := ?_)
           try simp only [aP,aN,aS,aZ,aC]
           have fin := SA37.out.stored HE.out NPpb32.out 0 0 0
           refine rd9 (i := 11) (h := fun K hK => ?_)
           refine step_store_row8 (by rfl) 44 (.tmp 10) (.tmp 55) rfl pb32 (plC 0 0 0).toArray rfl rfl 44 _ (SA37.out.p pb32 rfl) infoPlace rfl (pl_ones _ _ _) ?_
           refine hK _ _ trivial (fun hHx => ?_)
           clear hK K
           try simp only [aP,aN,aS,aZ,aC]
           refine rd9 (i := 12) (h := fun K hK => ?_)
           go_simp
           refine hK _ _ trivial (fun hHx => ?_)
           clear hK K
           try simp only [aP,aN,aS,aZ,aC]
           refine wpAnyH_done (by kernel_rfl) (Via.mk ⟨pb32, sb35, ?_, FA38, RA39.out, fin.1, fin.2.1, fin.2.2⟩) _
           rfl
       · refine step_mkU8 (by rfl) (.tmp 52) (.tmp 52) rfl (z : Int) z rfl rfl rfl (by omega) ?_
         have SM44 := lH (S0.out.data ((Below.refl wd.heap.size wd).alloc (Nat.le_refl _) (.cells (cellsB (zer z)).toArray 5)) (hasB_zer wd z) (fun x hx => by injection hx with hx; rw [<- hx]; exact ⟨Nat.le_refl _, by simp⟩))
         obtain ⟨wm43, hw2⟩ : ∃ W, wd.alloc (.cells (cellsB (zer z)).toArray 5) = W := ⟨_, rfl⟩
         obtain ⟨sb45, hs2⟩ : ∃ s, wd.heap.size = s := ⟨_, rfl⟩
         rw [hw2, hs2] at SM44
         rw [hw2]
         simp only [hs2]
         clear hw2 hs2
         refine hK _ _ trivial (fun hHx => ?_)
         clear hK K
         try simp only [aP,aN,aS,aZ,aC]
         refine wpAnyH_ready (rs := [3, 10]) (by kernel_rfl) (by simp) ?_
         refine rc9 (h := fun K hK => ?_) (hs := (rc9 (h := fun K hK => ?_) (hs := AllReadyH.nil)))
         · go_simp
           refine (KYH.out _).mono ?_
           rintro e wk46 ⟨rfl, bk⟩
           have SK47 := lH (SM44.out.below bk)
           clear bk
           refine hK _ _ trivial (fun hHx => ?_)
           clear hK K
           try simp only [aP,aN,aS,aZ,aC]
           refine wpAnyH_ready (rs := [6, 10]) (by kernel_rfl) (by simp) ?_
           refine rc9 (h := fun K hK => ?_) (hs := (rc9 (h := fun K hK => ?_) (hs := AllReadyH.nil)))
           · go_simp
             refine (CADD.out _ _ _ SK47.out.t (SK47.out.m _ rfl) (fun a ha _ => .inr (.inl ⟨a, by rw [ha], rfl⟩))).mono ?_
             rintro e wa48 ⟨FA50, ⟨rfl, t', y'⟩, res⟩
             have SA49 := lH (SK47.out.call t' y')
             have RA51 := lH res
             clear t' y' res
             refine hK _ _ trivial (fun hHx => ?_)
             clear hK K
             try simp only [aP,aN,aS,aZ,aC]
             refine tk9 (i := 7) (h := ?_)
             try simp only [aP,aN,aS,aZ,aC]
             refine tk9 (i := 8) (h := ?_)
             try simp only [aP,aN,aS,aZ,aC]
             refine tk9 (i := 9) (h := ?_)
             try simp only [aP,aN,aS,aZ,aC]
             refine rd9 (i := 10) (h := fun K hK => ?_)
             go_simp
             have SP56 := lH SA49.out.box
             obtain ⟨wp55, hw2⟩ : ∃ W, wa48.alloc (.cells #[.int .i64 0, .int .i64 0, .int .i64 0] 44) = W := ⟨_, rfl⟩
             obtain ⟨pb57, hp2⟩ : ∃ s, wa48.heap.size = s := ⟨_, rfl⟩
             rw [hw2, hp2] at SP56
             have NPpb57 : Hid (wd.heap.size <= pb57) := lH (by rw [<- hp2]; exact SA49.out.y.size)
             rw [hw2]
             simp only [hp2]
             clear hw2 hp2
             refine hK _ _ trivial (fun hHx => ?_)
             clear hK K
             try simp only [aP,aN,aS,aZ,aC]
             have fin := SP56.out.stored HE.out NPpb57.out 0 0 0
             refine rd9 (i := 11) (h := fun K hK => ?_)
             refine step_store_row8 (by rfl) 44 (.tmp 10) (.tmp 55) rfl pb57 (plC 0 0 0).toArray rfl rfl 44 _ (SP56.out.p pb57 rfl) infoPlace rfl (pl_ones _ _ _) ?_
             refine hK _ _ trivial (fun hHx => ?_)
             clear hK K
             try simp only [aP,aN,aS,aZ,aC]
             refine rd9 (i := 12) (h := fun K hK => ?_)
             go_simp
             refine hK _ _ trivial (fun hHx => ?_)
             clear hK K
             try simp only [aP,aN,aS,aZ,aC]
             refine wpAnyH_done (by kernel_rfl) (Via.mk ⟨pb57, sb45, ?_, FA50, RA51.out, fin.1, fin.2.1, fin.2.2⟩) _
             rfl
           · go_simp
             have SP59 := lH SK47.out.box
             obtain ⟨wp58, hw2⟩ : ∃ W, wk46.alloc (.cells #[.int .i64 0, .int .i64 0, .int .i64 0] 44) = W := ⟨_, rfl⟩
             obtain ⟨pb60, hp2⟩ : ∃ s, wk46.heap.size = s := ⟨_, rfl⟩
             rw [hw2, hp2] at SP59
             have NPpb60 : Hid (wd.heap.size <= pb60) := lH (by rw [<- hp2]; exact SK47.out.y.size)
             rw [hw2]
             simp only [hp2]
             clear hw2 hp2
             refine hK _ _ trivial (fun hHx => ?_)
             clear hK K
             try simp only [aP,aN,aS,aZ,aC]
             refine rd9 (i := 6) (h := fun K hK => ?_)
             go_simp
             refine (CADD.out _ _ _ SP59.out.t (SP59.out.m _ rfl) (fun a ha _ => .inr (.inl ⟨a, by rw [ha], rfl⟩))).mono ?_
             rintro e wa61 ⟨FA63, ⟨rfl, t', y'⟩, res⟩
             have SA62 := lH (SP59.out.call t' y')
             have RA64 := lH res
             clear t' y' res
             refine hK _ _ trivial (fun hHx => ?_)
             clear hK K
             try simp only [aP,aN,aS,aZ,aC]
             refine tk9 (i := 7) (h := ?_)
             try simp only [aP,aN,aS,aZ,aC]
             refine tk9 (i := 8) (h := ?_)
             try simp only [aP,aN,aS,aZ,aC]
             refine tk9 (i := 9) (h := ?_)
             try simp only [aP,aN,aS,aZ,aC]
             have fin := SA62.out.stored HE.out NPpb60.out 0 0 0
             refine rd9 (i := 11) (h := fun K hK => ?_)
             refine step_store_row8 (by rfl) 44 (.tmp 10) (.tmp 55) rfl pb60 (plC 0 0 0).toArray rfl rfl 44 _ (SA62.out.p pb60 rfl) infoPlace rfl (pl_ones _ _ _) ?_
             refine hK _ _ trivial (fun hHx => ?_)
             clear hK K
             try simp only [aP,aN,aS,aZ,aC]
             refine rd9 (i := 12) (h := fun K hK => ?_)
             go_simp
             refine hK _ _ trivial (fun hHx => ?_)
             clear hK K
             try simp only [aP,aN,aS,aZ,aC]
             refine wpAnyH_done (by kernel_rfl) (Via.mk ⟨pb60, sb45, ?_, FA63, RA64.out, fin.1, fin.2.1, fin.2.2⟩) _
             rfl
         · go_simp
           have SP69 := lH SM44.out.box
           obtain ⟨wp68, hw2⟩ : ∃ W, wm43.alloc (.cells #[.int .i64 0, .int .i64 0, .int .i64 0] 44) = W := ⟨_, rfl⟩
           obtain ⟨pb70, hp2⟩ : ∃ s, wm43.heap.size = s := ⟨_, rfl⟩
           rw [hw2, hp2] at SP69
           have NPpb70 : Hid (wd.heap.size <= pb70) := lH (by rw [<- hp2]; exact SM44.out.y.size)
           rw [hw2]
           simp only [hp2]
           clear hw2 hp2
           refine hK _ _ trivial (fun hHx => ?_)
           clear hK K
           try simp only [aP,aN,aS,aZ,aC]
           refine rd9 (i := 3) (h := fun K hK => ?_)
           go_simp
           refine (KYH.out _).mono ?_
           rintro e wk71 ⟨rfl, bk⟩
           have SK72 := lH (SP69.out.below bk)
           clear bk
           refine hK _ _ trivial (fun hHx => ?_)
           clear hK K
           try simp only [aP,aN,aS,aZ,aC]
           refine rd9 (i := 6) (h := fun K hK => ?_)
           go_simp
           refine (CADD.out _ _ _ SK72.out.t (SK72.out.m _ rfl) (fun a ha _ => .inr (.inl ⟨a, by rw [ha], rfl⟩))).mono ?_
           rintro e wa73 ⟨FA75, ⟨rfl, t', y'⟩, res⟩
           have SA74 := lH (SK72.out.call t' y')
           have RA76 := lH res
           clear t' y' res
           refine hK _ _ trivial (fun hHx => ?_)
           clear hK K
           try simp only [aP,aN,aS,aZ,aC]
           refine tk9 (i := 7) (h := ?_)
           try simp only [aP,aN,aS,aZ,aC]
           refine tk9 (i := 8) (h := ?_)
           try simp only [aP,aN,aS,aZ,aC]
           refine tk9 (i := 9) (h := ?_)
           try simp only [aP,aN,aS,aZ,aC]
           have fin := SA74.out.stored HE.out NPpb70.out 0 0 0
           refine rd9 (i := 11) (h := fun K hK => ?_)
           refine step_store_row8 (by rfl) 44 (.tmp 10) (.tmp 55) rfl pb70 (plC 0 0 0).toArray rfl rfl 44 _ (SA74.out.p pb70 rfl) infoPlace rfl (pl_ones _ _ _) ?_
           refine hK _ _ trivial (fun hHx => ?_)
           clear hK K
           try simp only [aP,aN,aS,aZ,aC]
           refine rd9 (i := 12) (h := fun K hK => ?_)
           go_simp
           refine hK _ _ trivial (fun hHx => ?_)
           clear hK K
           try simp only [aP,aN,aS,aZ,aC]
           refine wpAnyH_done (by kernel_rfl) (Via.mk ⟨pb70, sb45, ?_, FA75, RA76.out, fin.1, fin.2.1, fin.2.2⟩) _
           rfl
       · go_simp
         have SP81 := lH S0.out.box
         obtain ⟨wp80, hw2⟩ : ∃ W, wd.alloc (.cells #[.int .i64 0, .int .i64 0, .int .i64 0] 44) = W := ⟨_, rfl⟩
         obtain ⟨pb82, hp2⟩ : ∃ s, wd.heap.size = s := ⟨_, rfl⟩
         rw [hw2, hp2] at SP81
         have NPpb82 : Hid (wd.heap.size <= pb82) := lH (by rw [<- hp2]; exact S0.out.y.size)
         rw [hw2]
         simp only [hp2]
         clear hw2 hp2
         refine hK _ _ trivial (fun hHx => ?_)
         clear hK K
         try simp only [aP,aN,aS,aZ,aC]
         refine wpAnyH_ready (rs := [3, 5]) (by kernel_rfl) (by simp) ?_
         refine rc9 (h := fun K hK => ?_) (hs := (rc9 (h := fun K hK => ?_) (hs := AllReadyH.nil)))
         · go_simp
           refine (KYH.out _).mono ?_
           rintro e wk83 ⟨rfl, bk⟩
           have SK84 := lH (SP81.out.below bk)
           clear bk
           refine hK _ _ trivial (fun hHx => ?_)
           clear hK K
           try simp only [aP,aN,aS,aZ,aC]
           refine rd9 (i := 5) (h := fun K hK => ?_)
           refine step_mkU8 (by rfl) (.tmp 52) (.tmp 52) rfl (z : Int) z rfl rfl rfl (by omega) ?_
           have SM86 := lH (SK84.out.data ((Below.refl wk83.heap.size wk83).alloc (Nat.le_refl _) (.cells (cellsB (zer z)).toArray 5)) (hasB_zer wk83 z) (fun x hx => by injection hx with hx; rw [<- hx]; exact ⟨Nat.le_refl _, by simp⟩))
           obtain ⟨wm85, hw2⟩ : ∃ W, wk83.alloc (.cells (cellsB (zer z)).toArray 5) = W := ⟨_, rfl⟩
           obtain ⟨sb87, hs2⟩ : ∃ s, wk83.heap.size = s := ⟨_, rfl⟩
           rw [hw2, hs2] at SM86
           rw [hw2]
           simp only [hs2]
           clear hw2 hs2
           refine hK _ _ trivial (fun hHx => ?_)
           clear hK K
           try simp only [aP,aN,aS,aZ,aC]
           refine rd9 (i := 6) (h := fun K hK => ?_)
           go_simp
           refine (CADD.out _ _ _ SM86.out.t (SM86.out.m _ rfl) (fun a ha _ => .inr (.inl ⟨a, by rw [ha], rfl⟩))).mono ?_
           rintro e wa88 ⟨FA90, ⟨rfl, t', y'⟩, res⟩
           have SA89 := lH (SM86.out.call t' y')
           have RA91 := lH res
           clear t' y' res
           refine hK _ _ trivial (fun hHx => ?_)
           clear hK K
           try simp only [aP,aN,aS,aZ,aC]
           refine tk9 (i := 7) (h := ?_)
           try simp only [aP,aN,aS,aZ,aC]
           refine tk9 (i := 8) (h := ?_)
           try simp only [aP,aN,aS,aZ,aC]
           refine tk9 (i := 9) (h := ?_)
           try simp only [aP,aN,aS,aZ,aC]
           have fin := SA89.out.stored HE.out NPpb82.out 0 0 0
           refine rd9 (i := 11) (h := fun K hK => ?_)
           refine step_store_row8 (by rfl) 44 (.tmp 10) (.tmp 55) rfl pb82 (plC 0 0 0).toArray rfl rfl 44 _ (SA89.out.p pb82 rfl) infoPlace rfl (pl_ones _ _ _) ?_
           refine hK _ _ trivial (fun hHx => ?_)
           clear hK K
           try simp only [aP,aN,aS,aZ,aC]
           refine rd9 (i := 12) (h := fun K hK => ?_)
           go_simp
           refine hK _ _ trivial (fun hHx => ?_)
           clear hK K
           try simp only [aP,aN,aS,aZ,aC]
           refine wpAnyH_done (by kernel_rfl) (Via.mk ⟨pb82, sb87, ?_, FA90, RA91.out, fin.1, fin.2.1, fin.2.2⟩) _
           rfl
         · refine step_mkU8 (by rfl) (.tmp 52) (.tmp 52) rfl (z : Int) z rfl rfl rfl (by omega) ?_
           have SM96 := lH (SP81.out.data ((Below.refl wp80.heap.size wp80).alloc (Nat.le_refl _) (.cells (cellsB (zer z)).toArray 5)) (hasB_zer wp80 z) (fun x hx => by injection hx with hx; rw [<- hx]; exact ⟨Nat.le_refl _, by simp⟩))
           obtain ⟨wm95, hw2⟩ : ∃ W, wp80.alloc (.cells (cellsB (zer z)).toArray 5) = W := ⟨_, rfl⟩
           obtain ⟨sb97, hs2⟩ : ∃ s, wp80.heap.size = s := ⟨_, rfl⟩
           rw [hw2, hs2] at SM96
           rw [hw2]
           simp only [hs2]
           clear hw2 hs2
           refine hK _ _ trivial (fun hHx => ?_)
           clear hK K
           try simp only [aP,aN,aS,aZ,aC]
           refine rd9 (i := 3) (h := fun K hK => ?_)
           go_simp
           refine (KYH.out _).mono ?_
           rintro e wk98 ⟨rfl, bk⟩
           have SK99 := lH (SM96.out.below bk)
           clear bk
           refine hK _ _ trivial (fun hHx => ?_)
           clear hK K
           try simp only [aP,aN,aS,aZ,aC]
           refine rd9 (i := 6) (h := fun K hK => ?_)
           go_simp
           refine (CADD.out _ _ _ SK99.out.t (SK99.out.m _ rfl) (fun a ha _ => .inr (.inl ⟨a, by rw [ha], rfl⟩))).mono ?_
           rintro e wa100 ⟨FA102, ⟨rfl, t', y'⟩, res⟩
           have SA101 := lH (SK99.out.call t' y')
           have RA103 := lH res
           clear t' y' res
           refine hK _ _ trivial (fun hHx => ?_)
           clear hK K
           try simp only [aP,aN,aS,aZ,aC]
           refine tk9 (i := 7) (h := ?_)
           try simp only [aP,aN,aS,aZ,aC]
           refine tk9 (i := 8) (h := ?_)
           try simp only [aP,aN,aS,aZ,aC]
           refine tk9 (i := 9) (h := ?_)
           try simp only [aP,aN,aS,aZ,aC]
           have fin := SA101.out.stored HE.out NPpb82.out 0 0 0
           refine rd9 (i := 11) (h := fun K hK => ?_)
           refine step_store_row8 (by rfl) 44 (.tmp 10) (.tmp 55) rfl pb82 (plC 0 0 0).toArray rfl rfl 44 _ (SA101.out.p pb82 rfl) infoPlace rfl (pl_ones _ _ _) ?_
           refine hK _ _ trivial (fun hHx => ?_)
           clear hK K
           try simp only [aP,aN,aS,aZ,aC]
           refine rd9 (i := 12) (h := fun K hK => ?_)
           go_simp
           refine hK _ _ trivial (fun hHx => ?_)
           clear hK K
           try simp only [aP,aN,aS,aZ,aC]
           refine wpAnyH_done (by kernel_rfl) (Via.mk ⟨pb82, sb97, ?_, FA102, RA103.out, fin.1, fin.2.1, fin.2.2⟩) _
           rfl
      case hR1 =>
       rintro p s W' ⟨F', ⟨P, pi, np⟩, zb, t', y'⟩
       have CS := lH (pstat_no t' (by have := HV.out; omega) pi (bd_nat (by omega)) np)
       clear t' y' np pi zb
       go_wp2_with (first
        | (go_at_call 34; refine CS.out.mono ?_; rintro e w9 ⟨rfl, t9, y9⟩
           have B9 := lH t9.up
           clear t9 y9))
       go_ret
       exact ⟨rfl, B9.out⟩
    · have hlt : i < T := by omega
      have hne : ¬ (i : Int) = (T : Int) := by omega
      obtain ⟨d1, hd1⟩ : ∃ d, i / ea = d := ⟨_, rfl⟩
      obtain ⟨dr, hdr⟩ : ∃ d, i % ea = d := ⟨_, rfl⟩
      obtain ⟨d2, hd2⟩ : ∃ d, dr * S = d := ⟨_, rfl⟩
      have hd2b : d2 <= 1000000 := by
       rw [<- hd2]
       have : dr <= 178 := by rw [<- hdr]; exact Nat.le_trans (Nat.le_of_lt (Nat.mod_lt _ (by omega))) hea2
       exact Nat.le_trans (Nat.mul_le_mul this s3) (by omega)
      have cadd := full_step (Z := Z) (w0 := w) (g := g) (gd := gd) (gp := gp) (gt := gt') (n := n) (V := 3 * n + 45 + i * (n + 43)) (r := 60) (q := 0) (c := 0) (F := F) (C := F) K (by omega) (by omega) (by omega) (keyL y) (keyL_len y) z S ea pk i hz1 hS.symm hea3 hea4 (by omega) (by omega) (by omega) QF.out
      rw [hd1, hdr, hd2] at cadd
      have CADD := lH cadd
      have QD := lH (fun w => quo_run (x := i) (y := ea) (z := d1) (by omega) (by omega) hd1 w)
      have RD := lH (fun w => rem_run (x := i) (y := ea) (z := dr) (by omega) (by omega) hdr w)
      have MD := lH (fun w => mul_run (x := dr) (y := S) (z := d2) (by omega) hd2 w)
      have AD := lH (fun w => add46_run (x := z) (z := S) (by omega) hS w)
      clear cadd hd1 hdr hd2 hV
      go_upto_region 13 with fail
      obtain ⟨wd, hwd⟩ : ∃ W, wr.drew = W := ⟨_, rfl⟩
      have S0 : Hid (ASt Z w wd g gd gp gt' n (3 * n + 45 + i * (n + 43)) 60 0 0 F F (fun _ => False) z (zer z) none none wd) := lH (ASt.start (hwd ▸ QT.out.up1 (Below.refl wr.heap.size wr).drew))
      have HE : Hid (∀ k, (fun _ : Nat => False) k -> k < wd.heap.size) := lH (fun k h => h.elim)
      refine wp_region_held_drew (S := fun _ => True) (by kernel_rfl) trivial (fun hHeld => ?_)
      rw [hwd]
      refine via2 (A := ?A2) (X := fun p s W => ∃ F', (FullS (n - 2 - 60) S ea (i + 1) F') /\ W.heap[p]? = some (plB (d1 : Int) (d2 : Int) (S : Int)) /\ T3 Z w W g gd gp gt' n (3 * n + 45 + i * (n + 43)) 60 4300 12 F' F (fun k => False \/ k = p) /\ Only (fun k => ¬ False) wd W) ?main2 ?hR2
      case main2 =>
       refine tk9 (i := 0) (h := ?_)
       try simp only [aP,aN,aS,aZ,aC]
       refine tk9 (i := 1) (h := ?_)
       try simp only [aP,aN,aS,aZ,aC]
       refine tk9 (i := 2) (h := ?_)
       try simp only [aP,aN,aS,aZ,aC]
       refine tk9 (i := 4) (h := ?_)
       try simp only [aP,aN,aS,aZ,aC]
       refine wpAnyH_ready (rs := [3, 5, 10]) (by kernel_rfl) (by simp) ?_
       refine rc9 (h := fun K hK => ?_) (hs := (rc9 (h := fun K hK => ?_) (hs := (rc9 (h := fun K hK => ?_) (hs := AllReadyH.nil)))))
       · go_simp
         refine (KYH.out _).mono ?_
         rintro e wk111 ⟨rfl, bk⟩
         have SK112 := lH (S0.out.below bk)
         clear bk
         refine hK _ _ trivial (fun hHx => ?_)
         clear hK K
         try simp only [aP,aN,aS,aZ,aC]
         refine wpAnyH_ready (rs := [5, 10]) (by kernel_rfl) (by simp) ?_
         refine rc9 (h := fun K hK => ?_) (hs := (rc9 (h := fun K hK => ?_) (hs := AllReadyH.nil)))
         · refine step_mkU8 (by rfl) (.tmp 52) (.tmp 52) rfl (z : Int) z rfl rfl rfl (by omega) ?_
           have SM114 := lH (SK112.out.data ((Below.refl wk111.heap.size wk111).alloc (Nat.le_refl _) (.cells (cellsB (zer z)).toArray 5)) (hasB_zer wk111 z) (fun x hx => by injection hx with hx; rw [<- hx]; exact ⟨Nat.le_refl _, by simp⟩))
           obtain ⟨wm113, hw2⟩ : ∃ W, wk111.alloc (.cells (cellsB (zer z)).toArray 5) = W := ⟨_, rfl⟩
           obtain ⟨sb115, hs2⟩ : ∃ s, wk111.heap.size = s := ⟨_, rfl⟩
           rw [hw2, hs2] at SM114
           rw [hw2]
           simp only [hs2]
           clear hw2 hs2
           refine hK _ _ trivial (fun hHx => ?_)
           clear hK K
           try simp only [aP,aN,aS,aZ,aC]
           refine wpAnyH_ready (rs := [6, 10]) (by kernel_rfl) (by simp) ?_
           refine rc9 (h := fun K hK => ?_) (hs := (rc9 (h := fun K hK => ?_) (hs := AllReadyH.nil)))
           · go_simp
             refine (CADD.out _ _ _ SM114.out.t (SM114.out.m _ rfl) (fun a ha _ => .inr (.inl ⟨a, by rw [ha], rfl⟩))).mono ?_
             rintro e wa116 ⟨FA118, ⟨rfl, t', y'⟩, res⟩
             have SA117 := lH (SM114.out.call t' y')
             have RA119 := lH res
             clear t' y' res
             refine hK _ _ trivial (fun hHx => ?_)
             clear hK K
             try simp only [aP,aN,aS,aZ,aC]
             refine tk9 (i := 7) (h := ?_)
             try simp only [aP,aN,aS,aZ,aC]
             refine tk9 (i := 8) (h := ?_)
             try simp only [aP,aN,aS,aZ,aC]
             refine tk9 (i := 9) (h := ?_)
             try simp only [aP,aN,aS,aZ,aC]
             refine rd9 (i := 10) (h := fun K hK => ?_)
             go_simp
             have SP124 := lH SA117.out.box
             obtain ⟨wp123, hw2⟩ : ∃ W, wa116.alloc (.cells #[.int .i64 0, .int .i64 0, .int .i64 0] 44) = W := ⟨_, rfl⟩
             obtain ⟨pb125, hp2⟩ : ∃ s, wa116.heap.size = s := ⟨_, rfl⟩
             rw [hw2, hp2] at SP124
             have NPpb125 : Hid (wd.heap.size <= pb125) := lH (by rw [<- hp2]; exact SA117.out.y.size)
             rw [hw2]
             simp only [hp2]
             clear hw2 hp2
             refine hK _ _ trivial (fun hHx => ?_)
             clear hK K
             try simp only [aP,aN,aS,aZ,aC]
             have fin := SP124.out.stored HE.out NPpb125.out (d1 : Int) (d2 : Int) (S : Int)
             refine rd9 (i := 11) (h := fun K hK => ?_)
             refine step_store_row8 (by rfl) 44 (.tmp 10) (.tmp 55) rfl pb125 (plC (d1 : Int) (d2 : Int) (S : Int)).toArray rfl rfl 44 _ (SP124.out.p pb125 rfl) infoPlace rfl (pl_ones _ _ _) ?_
             refine hK _ _ trivial (fun hHx => ?_)
             clear hK K
             try simp only [aP,aN,aS,aZ,aC]
             refine rd9 (i := 12) (h := fun K hK => ?_)
             go_simp
             refine hK _ _ trivial (fun hHx => ?_)
             clear hK K
             try simp only [aP,aN,aS,aZ,aC]
             refine wpAnyH_done (by kernel_rfl) (Via.mk ⟨pb125, sb115, ?_, FA118, RA119.out, fin.1, fin.2.1, fin.2.2⟩) _
             rfl
           · go_simp
             have SP127 := lH SM114.out.box
             obtain ⟨wp126, hw2⟩ : ∃ W, wm113.alloc (.cells #[.int .i64 0, .int .i64 0, .int .i64 0] 44) = W := ⟨_, rfl⟩
             obtain ⟨pb128, hp2⟩ : ∃ s, wm113.heap.size = s := ⟨_, rfl⟩
             rw [hw2, hp2] at SP127
             have NPpb128 : Hid (wd.heap.size <= pb128) := lH (by rw [<- hp2]; exact SM114.out.y.size)
             rw [hw2]
             simp only [hp2]
             clear hw2 hp2
             refine hK _ _ trivial (fun hHx => ?_)
             clear hK K
             try simp only [aP,aN,aS,aZ,aC]
             refine rd9 (i := 6) (h := fun K hK => ?_)
             go_simp
             refine (CADD.out _ _ _ SP127.out.t (SP127.out.m _ rfl) (fun a ha _ => .inr (.inl ⟨a, by rw [ha], rfl⟩))).mono ?_
             rintro e wa129 ⟨FA131, ⟨rfl, t', y'⟩, res⟩
             have SA130 := lH (SP127.out.call t' y')
             have RA132 := lH res
             clear t' y' res
             refine hK _ _ trivial (fun hHx => ?_)
             clear hK K
             try simp only [aP,aN,aS,aZ,aC]
             refine tk9 (i := 7) (h := ?_)
             try simp only [aP,aN,aS,aZ,aC]
             refine tk9 (i := 8) (h := ?_)
             try simp only [aP,aN,aS,aZ,aC]
             refine tk9 (i := 9) (h := ?_)
             try simp only [aP,aN,aS,aZ,aC]
             have fin := SA130.out.stored HE.out NPpb128.out (d1 : Int) (d2 : Int) (S : Int)
             refine rd9 (i := 11) (h := fun K hK => ?_)
             refine step_store_row8 (by rfl) 44 (.tmp 10) (.tmp 55) rfl pb128 (plC (d1 : Int) (d2 : Int) (S : Int)).toArray rfl rfl 44 _ (SA130.out.p pb128 rfl) infoPlace rfl (pl_ones _ _ _) ?_
             refine hK _ _ trivial (fun hHx => ?_)
             clear hK K
             try simp only [aP,aN,aS,aZ,aC]
             refine rd9 (i := 12) (h := fun K hK => ?_)
             go_simp
             refine hK _ _ trivial (fun hHx => ?_)
             clear hK K
             try simp only [aP,aN,aS,aZ,aC]
             refine wpAnyH_done (by kernel_rfl) (Via.mk ⟨pb128, sb115, ?_, FA131, RA132.out, fin.1, fin.2.1, fin.2.2⟩) _
             rfl
         · go_simp
           have SP137 := lH SK112.out.box
           obtain ⟨wp136, hw2⟩ : ∃ W, wk111.alloc (.cells #[.int .i64 0, .int .i64 0, .int .i64 0] 44) = W := ⟨_, rfl⟩
           obtain ⟨pb138, hp2⟩ : ∃ s, wk111.heap.size = s := ⟨_, rfl⟩
           rw [hw2, hp2] at SP137
           have NPpb138 : Hid (wd.heap.size <= pb138) := lH (by rw [<- hp2]; exact SK112.out.y.size)
           rw [hw2]
           simp only [hp2]
           clear hw2 hp2
           refine hK _ _ trivial (fun hHx => ?_)
           clear hK K
           try simp only [aP,aN,aS,aZ,aC]
           refine rd9 (i := 5) (h := fun K hK => ?_)
           refine step_mkU8 (by rfl) (.tmp 52) (.tmp 52) rfl (z : Int) z rfl rfl rfl (by omega) ?_
           have SM140 := lH (SP137.out.data ((Below.refl wp136.heap.size wp136).alloc (Nat.le_refl _) (.cells (cellsB (zer z)).toArray 5)) (hasB_zer wp136 z) (fun x hx => by injection hx with hx; rw [<- hx]; exact ⟨Nat.le_refl _, by simp⟩))
           obtain ⟨wm139, hw2⟩ : ∃ W, wp136.alloc (.cells (cellsB (zer z)).toArray 5) = W := ⟨_, rfl⟩
           obtain ⟨sb141, hs2⟩ : ∃ s, wp136.heap.size = s := ⟨_, rfl⟩
           rw [hw2, hs2] at SM140
           rw [hw2]
           simp only [hs2]
           clear hw2 hs2
           refine hK _ _ trivial (fun hHx => ?_)
           clear hK K
           try simp only [aP,aN,aS,aZ,aC]
           refine rd9 (i := 6) (h := fun K hK => ?_)
           go_simp
           refine (CADD.out _ _ _ SM140.out.t (SM140.out.m _ rfl) (fun a ha _ => .inr (.inl ⟨a, by rw [ha], rfl⟩))).mono ?_
           rintro e wa142 ⟨FA144, ⟨rfl, t', y'⟩, res⟩
           have SA143 := lH (SM140.out.call t' y')
           have RA145 := lH res
           clear t' y' res
           refine hK _ _ trivial (fun hHx => ?_)
           clear hK K
           try simp only [aP,aN,aS,aZ,aC]
           refine tk9 (i := 7) (h := ?_)
           try simp only [aP,aN,aS,aZ,aC]
           refine tk9 (i := 8) (h := ?_)
           try simp only [aP,aN,aS,aZ,aC]
           refine tk9 (i := 9) (h := ?_)
           try simp only [aP,aN,aS,aZ,aC]
           have fin := SA143.out.stored HE.out NPpb138.out (d1 : Int) (d2 : Int) (S : Int)
           refine rd9 (i := 11) (h := fun K hK => ?_)
           refine step_store_row8 (by rfl) 44 (.tmp 10) (.tmp 55) rfl pb138 (plC (d1 : Int) (d2 : Int) (S : Int)).toArray rfl rfl 44 _ (SA143.out.p pb138 rfl) infoPlace rfl (pl_ones _ _ _) ?_
           refine hK _ _ trivial (fun hHx => ?_)
           clear hK K
           try simp only [aP,aN,aS,aZ,aC]
           refine rd9 (i := 12) (h := fun K hK => ?_)
           go_simp
           refine hK _ _ trivial (fun hHx => ?_)
           clear hK K
           try simp only [aP,aN,aS,aZ,aC]
           refine wpAnyH_done (by kernel_rfl) (Via.mk ⟨pb138, sb141, ?_, FA144, RA145.out, fin.1, fin.2.1, fin.2.2⟩) _
           rfl
       · refine step_mkU8 (by rfl) (.tmp 52) (.tmp 52) rfl (z : Int) z rfl rfl rfl (by omega) ?_
         have SM150 := lH (S0.out.data ((Below.refl wd.heap.size wd).alloc (Nat.le_refl _) (.cells (cellsB (zer z)).toArray 5)) (hasB_zer wd z) (fun x hx => by injection hx with hx; rw [<- hx]; exact ⟨Nat.le_refl _, by simp⟩))
         obtain ⟨wm149, hw2⟩ : ∃ W, wd.alloc (.cells (cellsB (zer z)).toArray 5) = W := ⟨_, rfl⟩
         obtain ⟨sb151, hs2⟩ : ∃ s, wd.heap.size = s := ⟨_, rfl⟩
         rw [hw2, hs2] at SM150
         rw [hw2]
         simp only [hs2]
         clear hw2 hs2
         refine hK _ _ trivial (fun hHx => ?_)
         clear hK K
         try simp only [aP,aN,aS,aZ,aC]
         refine wpAnyH_ready (rs := [3, 10]) (by kernel_rfl) (by simp) ?_
         refine rc9 (h := fun K hK => ?_) (hs := (rc9 (h := fun K hK => ?_) (hs := AllReadyH.nil)))
         · go_simp
           refine (KYH.out _).mono ?_
           rintro e wk152 ⟨rfl, bk⟩
           have SK153 := lH (SM150.out.below bk)
           clear bk
           refine hK _ _ trivial (fun hHx => ?_)
           clear hK K
           try simp only [aP,aN,aS,aZ,aC]
           refine wpAnyH_ready (rs := [6, 10]) (by kernel_rfl) (by simp) ?_
           refine rc9 (h := fun K hK => ?_) (hs := (rc9 (h := fun K hK => ?_) (hs := AllReadyH.nil)))
           · go_simp
             refine (CADD.out _ _ _ SK153.out.t (SK153.out.m _ rfl) (fun a ha _ => .inr (.inl ⟨a, by rw [ha], rfl⟩))).mono ?_
             rintro e wa154 ⟨FA156, ⟨rfl, t', y'⟩, res⟩
             have SA155 := lH (SK153.out.call t' y')
             have RA157 := lH res
             clear t' y' res
             refine hK _ _ trivial (fun hHx => ?_)
             clear hK K
             try simp only [aP,aN,aS,aZ,aC]
             refine tk9 (i := 7) (h := ?_)
             try simp only [aP,aN,aS,aZ,aC]
             refine tk9 (i := 8) (h := ?_)
             try simp only [aP,aN,aS,aZ,aC]
             refine tk9 (i := 9) (h := ?_)
             try simp only [aP,aN,aS,aZ,aC]
             refine rd9 (i := 10) (h := fun K hK => ?_)
             go_simp
             have SP162 := lH SA155.out.box
             obtain ⟨wp161, hw2⟩ : ∃ W, wa154.alloc (.cells #[.int .i64 0, .int .i64 0, .int .i64 0] 44) = W := ⟨_, rfl⟩
             obtain ⟨pb163, hp2⟩ : ∃ s, wa154.heap.size = s := ⟨_, rfl⟩
             rw [hw2, hp2] at SP162
             have NPpb163 : Hid (wd.heap.size <= pb163) := lH (by rw [<- hp2]; exact SA155.out.y.size)
             rw [hw2]
             simp only [hp2]
             clear hw2 hp2
             refine hK _ _ trivial (fun hHx => ?_)
             clear hK K
             try simp only [aP,aN,aS,aZ,aC]
             have fin := SP162.out.stored HE.out NPpb163.out (d1 : Int) (d2 : Int) (S : Int)
             refine rd9 (i := 11) (h := fun K hK => ?_)
             refine step_store_row8 (by rfl) 44 (.tmp 10) (.tmp 55) rfl pb163 (plC (d1 : Int) (d2 : Int) (S : Int)).toArray rfl rfl 44 _ (SP162.out.p pb163 rfl) infoPlace rfl (pl_ones _ _ _) ?_
             refine hK _ _ trivial (fun hHx => ?_)
             clear hK K
             try simp only [aP,aN,aS,aZ,aC]
             refine rd9 (i := 12) (h := fun K hK => ?_)
             go_simp
             refine hK _ _ trivial (fun hHx => ?_)
             clear hK K
             try simp only [aP,aN,aS,aZ,aC]
             refine wpAnyH_done (by kernel_rfl) (Via.mk ⟨pb163, sb151, ?_, FA156, RA157.out, fin.1, fin.2.1, fin.2.2⟩) _
             rfl
           · go_simp
             have SP165 := lH SK153.out.box
             obtain ⟨wp164, hw2⟩ : ∃ W, wk152.alloc (.cells #[.int .i64 0, .int .i64 0, .int .i64 0] 44) = W := ⟨_, rfl⟩
             obtain ⟨pb166, hp2⟩ : ∃ s, wk152.heap.size = s := ⟨_, rfl⟩
             rw [hw2, hp2] at SP165
             have NPpb166 : Hid (wd.heap.size <= pb166) := lH (by rw [<- hp2]; exact SK153.out.y.size)
             rw [hw2]
             simp only [hp2]
             clear hw2 hp2
             refine hK _ _ trivial (fun hHx => ?_)
             clear hK K
             try simp only [aP,aN,aS,aZ,aC]
             refine rd9 (i := 6) (h := fun K hK => ?_)
             go_simp
             refine (CADD.out _ _ _ SP165.out.t (SP165.out.m _ rfl) (fun a ha _ => .inr (.inl ⟨a, by rw [ha], rfl⟩))).mono ?_
             rintro e wa167 ⟨FA169, ⟨rfl, t', y'⟩, res⟩
             have SA168 := lH (SP165.out.call t' y')
             have RA170 := lH res
             clear t' y' res
             refine hK _ _ trivial (fun hHx => ?_)
             clear hK K
             try simp only [aP,aN,aS,aZ,aC]
             refine tk9 (i := 7) (h := ?_)
             try simp only [aP,aN,aS,aZ,aC]
             refine tk9 (i := 8) (h := ?_)
             try simp only [aP,aN,aS,aZ,aC]
             refine tk9 (i := 9) (h := ?_)
             try simp only [aP,aN,aS,aZ,aC]
             have fin := SA168.out.stored HE.out NPpb166.out (d1 : Int) (d2 : Int) (S : Int)
             refine rd9 (i := 11) (h := fun K hK => ?_)
             refine step_store_row8 (by rfl) 44 (.tmp 10) (.tmp 55) rfl pb166 (plC (d1 : Int) (d2 : Int) (S : Int)).toArray rfl rfl 44 _ (SA168.out.p pb166 rfl) infoPlace rfl (pl_ones _ _ _) ?_
             refine hK _ _ trivial (fun hHx => ?_)
             clear hK K
             try simp only [aP,aN,aS,aZ,aC]
             refine rd9 (i := 12) (h := fun K hK => ?_)
             go_simp
             refine hK _ _ trivial (fun hHx => ?_)
             clear hK K
             try simp only [aP,aN,aS,aZ,aC]
             refine wpAnyH_done (by kernel_rfl) (Via.mk ⟨pb166, sb151, ?_, FA169, RA170.out, fin.1, fin.2.1, fin.2.2⟩) _
             rfl
         · go_simp
           have SP175 := lH SM150.out.box
           obtain ⟨wp174, hw2⟩ : ∃ W, wm149.alloc (.cells #[.int .i64 0, .int .i64 0, .int .i64 0] 44) = W := ⟨_, rfl⟩
           obtain ⟨pb176, hp2⟩ : ∃ s, wm149.heap.size = s := ⟨_, rfl⟩
           rw [hw2, hp2] at SP175
           have NPpb176 : Hid (wd.heap.size <= pb176) := lH (by rw [<- hp2]; exact SM150.out.y.size)
           rw [hw2]
           simp only [hp2]
           clear hw2 hp2
           refine hK _ _ trivial (fun hHx => ?_)
           clear hK K
           try simp only [aP,aN,aS,aZ,aC]
           refine rd9 (i := 3) (h := fun K hK => ?_)
           go_simp
           refine (KYH.out _).mono ?_
           rintro e wk177 ⟨rfl, bk⟩
           have SK178 := lH (SP175.out.below bk)
           clear bk
           refine hK _ _ trivial (fun hHx => ?_)
           clear hK K
           try simp only [aP,aN,aS,aZ,aC]
           refine rd9 (i := 6) (h := fun K hK => ?_)
           go_simp
           refine (CADD.out _ _ _ SK178.out.t (SK178.out.m _ rfl) (fun a ha _ => .inr (.inl ⟨a, by rw [ha], rfl⟩))).mono ?_
           rintro e wa179 ⟨FA181, ⟨rfl, t', y'⟩, res⟩
           have SA180 := lH (SK178.out.call t' y')
           have RA182 := lH res
           clear t' y' res
           refine hK _ _ trivial (fun hHx => ?_)
           clear hK K
           try simp only [aP,aN,aS,aZ,aC]
           refine tk9 (i := 7) (h := ?_)
           try simp only [aP,aN,aS,aZ,aC]
           refine tk9 (i := 8) (h := ?_)
           try simp only [aP,aN,aS,aZ,aC]
           refine tk9 (i := 9) (h := ?_)
           try simp only [aP,aN,aS,aZ,aC]
           have fin := SA180.out.stored HE.out NPpb176.out (d1 : Int) (d2 : Int) (S : Int)
           refine rd9 (i := 11) (h := fun K hK => ?_)
           refine step_store_row8 (by rfl) 44 (.tmp 10) (.tmp 55) rfl pb176 (plC (d1 : Int) (d2 : Int) (S : Int)).toArray rfl rfl 44 _ (SA180.out.p pb176 rfl) infoPlace rfl (pl_ones _ _ _) ?_
           refine hK _ _ trivial (fun hHx => ?_)
           clear hK K
           try simp only [aP,aN,aS,aZ,aC]
           refine rd9 (i := 12) (h := fun K hK => ?_)
           go_simp
           refine hK _ _ trivial (fun hHx => ?_)
           clear hK K
           try simp only [aP,aN,aS,aZ,aC]
           refine wpAnyH_done (by kernel_rfl) (Via.mk ⟨pb176, sb151, ?_, FA181, RA182.out, fin.1, fin.2.1, fin.2.2⟩) _
           rfl
       · go_simp
         have SP187 := lH S0.out.box
         obtain ⟨wp186, hw2⟩ : ∃ W, wd.alloc (.cells #[.int .i64 0, .int .i64 0, .int .i64 0] 44) = W := ⟨_, rfl⟩
         obtain ⟨pb188, hp2⟩ : ∃ s, wd.heap.size = s := ⟨_, rfl⟩
         rw [hw2, hp2] at SP187
         have NPpb188 : Hid (wd.heap.size <= pb188) := lH (by rw [<- hp2]; exact S0.out.y.size)
         rw [hw2]
         simp only [hp2]
         clear hw2 hp2
         refine hK _ _ trivial (fun hHx => ?_)
         clear hK K
         try simp only [aP,aN,aS,aZ,aC]
         refine wpAnyH_ready (rs := [3, 5]) (by kernel_rfl) (by simp) ?_
         refine rc9 (h := fun K hK => ?_) (hs := (rc9 (h := fun K hK => ?_) (hs := AllReadyH.nil)))
         · go_simp
           refine (KYH.out _).mono ?_
           rintro e wk189 ⟨rfl, bk⟩
           have SK190 := lH (SP187.out.below bk)
           clear bk
           refine hK _ _ trivial (fun hHx => ?_)
           clear hK K
           try simp only [aP,aN,aS,aZ,aC]
           refine rd9 (i := 5) (h := fun K hK => ?_)
           refine step_mkU8 (by rfl) (.tmp 52) (.tmp 52) rfl (z : Int) z rfl rfl rfl (by omega) ?_
           have SM192 := lH (SK190.out.data ((Below.refl wk189.heap.size wk189).alloc (Nat.le_refl _) (.cells (cellsB (zer z)).toArray 5)) (hasB_zer wk189 z) (fun x hx => by injection hx with hx; rw [<- hx]; exact ⟨Nat.le_refl _, by simp⟩))
           obtain ⟨wm191, hw2⟩ : ∃ W, wk189.alloc (.cells (cellsB (zer z)).toArray 5) = W := ⟨_, rfl⟩
           obtain ⟨sb193, hs2⟩ : ∃ s, wk189.heap.size = s := ⟨_, rfl⟩
           rw [hw2, hs2] at SM192
           rw [hw2]
           simp only [hs2]
           clear hw2 hs2
           refine hK _ _ trivial (fun hHx => ?_)
           clear hK K
           try simp only [aP,aN,aS,aZ,aC]
           refine rd9 (i := 6) (h := fun K hK => ?_)
           go_simp
           refine (CADD.out _ _ _ SM192.out.t (SM192.out.m _ rfl) (fun a ha _ => .inr (.inl ⟨a, by rw [ha], rfl⟩))).mono ?_
           rintro e wa194 ⟨FA196, ⟨rfl, t', y'⟩, res⟩
           have SA195 := lH (SM192.out.call t' y')
           have RA197 := lH res
           clear t' y' res
           refine hK _ _ trivial (fun hHx => ?_)
           clear hK K
           try simp only [aP,aN,aS,aZ,aC]
           refine tk9 (i := 7) (h := ?_)
           try simp only [aP,aN,aS,aZ,aC]
           refine tk9 (i := 8) (h := ?_)
           try simp only [aP,aN,aS,aZ,aC]
           refine tk9 (i := 9) (h := ?_)
           try simp only [aP,aN,aS,aZ,aC]
           have fin := SA195.out.stored HE.out NPpb188.out (d1 : Int) (d2 : Int) (S : Int)
           refine rd9 (i := 11) (h := fun K hK => ?_)
           refine step_store_row8 (by rfl) 44 (.tmp 10) (.tmp 55) rfl pb188 (plC (d1 : Int) (d2 : Int) (S : Int)).toArray rfl rfl 44 _ (SA195.out.p pb188 rfl) infoPlace rfl (pl_ones _ _ _) ?_
           refine hK _ _ trivial (fun hHx => ?_)
           clear hK K
           try simp only [aP,aN,aS,aZ,aC]
           refine rd9 (i := 12) (h := fun K hK => ?_)
           go_simp
           refine hK _ _ trivial (fun hHx => ?_)
           clear hK K
           try simp only [aP,aN,aS,aZ,aC]
           refine wpAnyH_done (by kernel_rfl) (Via.mk ⟨pb188, sb193, ?_, FA196, RA197.out, fin.1, fin.2.1, fin.2.2⟩) _
           rfl
         · refine step_mkU8 (by rfl) (.tmp 52) (.tmp 52) rfl (z : Int) z rfl rfl rfl (by omega) ?_
           have SM202 := lH (SP187.out.data ((Below.refl wp186.heap.size wp186).alloc (Nat.le_refl _) (.cells (cellsB (zer z)).toArray 5)) (hasB_zer wp186 z) (fun x hx => by injection hx with hx; rw [<- hx]; exact ⟨Nat.le_refl _, by simp⟩))
           obtain ⟨wm201, hw2⟩ : ∃ W, wp186.alloc (.cells (cellsB (zer z)).toArray 5) = W := ⟨_, rfl⟩
           obtain ⟨sb203, hs2⟩ : ∃ s, wp186.heap.size = s := ⟨_, rfl⟩
           rw [hw2, hs2] at SM202
           rw [hw2]
           simp only [hs2]
           clear hw2 hs2
           refine hK _ _ trivial (fun hHx => ?_)
           clear hK K
           try simp only [aP,aN,aS,aZ,aC]
           refine rd9 (i := 3) (h := fun K hK => ?_)
           go_simp
           refine (KYH.out _).mono ?_
           rintro e wk204 ⟨rfl, bk⟩
           have SK205 := lH (SM202.out.below bk)
           clear bk
           refine hK _ _ trivial (fun hHx => ?_)
           clear hK K
           try simp only [aP,aN,aS,aZ,aC]
           refine rd9 (i := 6) (h := fun K hK => ?_)
           go_simp
           refine (CADD.out _ _ _ SK205.out.t (SK205.out.m _ rfl) (fun a ha _ => .inr (.inl ⟨a, by rw [ha], rfl⟩))).mono ?_
           rintro e wa206 ⟨FA208, ⟨rfl, t', y'⟩, res⟩
           have SA207 := lH (SK205.out.call t' y')
           have RA209 := lH res
           clear t' y' res
           refine hK _ _ trivial (fun hHx => ?_)
           clear hK K
           try simp only [aP,aN,aS,aZ,aC]
           refine tk9 (i := 7) (h := ?_)
           try simp only [aP,aN,aS,aZ,aC]
           refine tk9 (i := 8) (h := ?_)
           try simp only [aP,aN,aS,aZ,aC]
           refine tk9 (i := 9) (h := ?_)
           try simp only [aP,aN,aS,aZ,aC]
           have fin := SA207.out.stored HE.out NPpb188.out (d1 : Int) (d2 : Int) (S : Int)
           refine rd9 (i := 11) (h := fun K hK => ?_)
           refine step_store_row8 (by rfl) 44 (.tmp 10) (.tmp 55) rfl pb188 (plC (d1 : Int) (d2 : Int) (S : Int)).toArray rfl rfl 44 _ (SA207.out.p pb188 rfl) infoPlace rfl (pl_ones _ _ _) ?_
           refine hK _ _ trivial (fun hHx => ?_)
           clear hK K
           try simp only [aP,aN,aS,aZ,aC]
           refine rd9 (i := 12) (h := fun K hK => ?_)
           go_simp
           refine hK _ _ trivial (fun hHx => ?_)
           clear hK K
           try simp only [aP,aN,aS,aZ,aC]
           refine wpAnyH_done (by kernel_rfl) (Via.mk ⟨pb188, sb203, ?_, FA208, RA209.out, fin.1, fin.2.1, fin.2.2⟩) _
           rfl
      case hR2 =>
       rintro p s W' ⟨F', ff, zb, t', y'⟩
       have FF := lH ff
       have CC := lH (fun W (t : T3 Z w W g gd gp gt' n (3 * n + 45 + i * (n + 43)) 60 4300 12 F' F (fun k => False \/ k = p)) => t.commit (by have := HV.out; omega) (by omega) (by omega) (by omega))
       have TT := lH t'
       have ZB := lH zb
       clear ff t' y' zb
       go_upto_region 17 with fail
       refine wp_region_held_drew (S := fun Y => Y.heap[p]? = some (plB (d1 : Int) (d2 : Int) (S : Int))) (by kernel_rfl) (show W'.drew.heap[p]? = _ from ZB.out) (fun hHeld => ?_)
       refine tk9 (i := 0) (h := ?_)
       try simp only [aP,aN,aS,aZ,aC]
       refine tk9 (i := 1) (h := ?_)
       try simp only [aP,aN,aS,aZ,aC]
       refine tk9 (i := 2) (h := ?_)
       try simp only [aP,aN,aS,aZ,aC]
       refine tk9 (i := 3) (h := ?_)
       try simp only [aP,aN,aS,aZ,aC]
       refine tk9 (i := 4) (hy := (yieldsIf_loadG (by rfl) 3 (.tmp 78) rfl ⟨p, 0, none⟩ rfl (.int .i64 (d1 : Int)) (fun Y hY => load_intc (cell_of_row Y p 0 _ _ _ hY)))) (h := ?_)
       try simp only [aP,aN,aS,aZ,aC]
       refine tk9 (i := 5) (h := ?_)
       try simp only [aP,aN,aS,aZ,aC]
       refine tk9 (i := 6) (h := ?_)
       try simp only [aP,aN,aS,aZ,aC]
       refine tk9 (i := 7) (hy := (yieldsIf_binP (by rfl) .quo 3 3 (.tmp 80) (.tmp 81) rfl (.int .i64 (i : Int)) (.int .i64 (ea : Int)) (.int .i64 (d1 : Int)) rfl rfl (fun w => guard_any _ _ _ _ _ w (by decide)) QD.out)) (h := ?_)
       try simp only [aP,aN,aS,aZ,aC]
       refine tk9 (i := 8) (hy := (yieldsIf_binP (by rfl) .neq 3 3 (.tmp 79) (.tmp 82) rfl (.int .i64 (d1 : Int)) (.int .i64 (d1 : Int)) (.bool false) rfl rfl (fun w => guard_neqI _ _ _ _ w) (fun w => neq_run w))) (h := ?_)
       try simp only [aP,aN,aS,aZ,aC]
       refine tk9 (i := 9) (h := ?_)
       try simp only [aP,aN,aS,aZ,aC]
       refine tk9 (i := 10) (h := ?_)
       try simp only [aP,aN,aS,aZ,aC]
       refine tk9 (i := 11) (h := ?_)
       try simp only [aP,aN,aS,aZ,aC]
       refine tk9 (i := 12) (hy := (yieldsIf_loadG (by rfl) 3 (.tmp 86) rfl ⟨p, 1, none⟩ rfl (.int .i64 (d2 : Int)) (fun Y hY => load_intc (cell_of_row Y p 1 _ _ _ hY)))) (h := ?_)
       try simp only [aP,aN,aS,aZ,aC]
       refine tk9 (i := 13) (h := ?_)
       try simp only [aP,aN,aS,aZ,aC]
       refine tk9 (i := 14) (h := ?_)
       try simp only [aP,aN,aS,aZ,aC]
       refine tk9 (i := 15) (hy := (yieldsIf_binP (by rfl) .rem 3 3 (.tmp 88) (.tmp 89) rfl (.int .i64 (i : Int)) (.int .i64 (ea : Int)) (.int .i64 (dr : Int)) rfl rfl (fun w => guard_any _ _ _ _ _ w (by decide)) RD.out)) (h := ?_)
       try simp only [aP,aN,aS,aZ,aC]
       refine tk9 (i := 16) (h := ?_)
       try simp only [aP,aN,aS,aZ,aC]
       refine tk9 (i := 17) (hy := (yieldsIf_binP (by rfl) .add 3 3 (.tmp 91) (.const (.int .i64 46)) rfl (.int .i64 (z : Int)) (.int .i64 46) (.int .i64 (S : Int)) rfl rfl (fun w => guard_any _ _ _ _ _ w (by decide)) AD.out)) (h := ?_)
       try simp only [aP,aN,aS,aZ,aC]
       refine tk9 (i := 18) (hy := (yieldsIf_binP (by rfl) .mul 3 3 (.tmp 90) (.tmp 92) rfl (.int .i64 (dr : Int)) (.int .i64 (S : Int)) (.int .i64 (d2 : Int)) rfl rfl (fun w => guard_any _ _ _ _ _ w (by decide)) MD.out)) (h := ?_)
       try simp only [aP,aN,aS,aZ,aC]
       refine tk9 (i := 19) (hy := (yieldsIf_binP (by rfl) .neq 3 3 (.tmp 87) (.tmp 93) rfl (.int .i64 (d2 : Int)) (.int .i64 (d2 : Int)) (.bool false) rfl rfl (fun w => guard_neqI _ _ _ _ w) (fun w => neq_run w))) (h := ?_)
       try simp only [aP,aN,aS,aZ,aC]
       refine tk9 (i := 20) (h := ?_)
       try simp only [aP,aN,aS,aZ,aC]
       refine tk9 (i := 21) (h := ?_)
       try simp only [aP,aN,aS,aZ,aC]
       refine tk9 (i := 22) (h := ?_)
       try simp only [aP,aN,aS,aZ,aC]
       refine rd9 (i := 23) (h := fun K hK => ?_)
       go_simp
       refine (CC.out _ (TT.out.up1 (Below.refl W'.heap.size W').drew)).mono ?_
       rintro e w8 ⟨rfl, jn, y8⟩
       have hS23 := (y8.block p (Array.getElem?_eq_some_iff.1 hHeld).1 (fun h => h (.inr rfl))).trans hHeld
       have JN := lH jn
       clear jn y8
       refine hK _ _ hS23 (fun hH23 => ?_)
       clear hK K
       try simp only [aP,aN,aS,aZ,aC]
       refine tk9 (i := 24) (h := ?_)
       try simp only [aP,aN,aS,aZ,aC]
       refine tk9 (i := 25) (h := ?_)
       try simp only [aP,aN,aS,aZ,aC]
       refine wpAnyH_done (by kernel_rfl) ?_ _
       have BG := lH (JN.out.begin3 (by have := HV.out; omega))
       have HV2 : Hid (3 * n + 45 + i * (n + 43) + n + 43 <= 3 * n + 45 + (i + 1) * (n + 43)) := lH (by rw [Nat.succ_mul i (n + 43)]; omega)
       go_wp2_with (first
        | (go_at_call 14; refine BG.out.mono ?_; rintro e w9 ⟨gt2, rfl, t9, y9⟩
           have T9 := lH (t9.more HV2.out (Nat.le_refl _) (Nat.le_refl _))
           clear t9 y9))
       go_roundw
       case rel =>
        exact ⟨i + 1, gt2, F', by omega, by go_num, rfl, T9.out.less (fun k h => h.elim), FF.out⟩
       case measure => simp [Go.RowKit.intOf]; omega
  · have BB := lH QT.out.up
    clear QF hiT
    go_wp2_with fail
    go_ret
    exact ⟨rfl, BB.out⟩
end Go.Proofs.YthoebjekkfhhgaaGreat
