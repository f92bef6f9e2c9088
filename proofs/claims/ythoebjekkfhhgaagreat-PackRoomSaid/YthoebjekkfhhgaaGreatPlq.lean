/-
  Own work.
-/
import Derived.Test.YthoebjekkfhhgaaGreatCp9
import Derived.Test.YthoebjekkfhhgaaGreatPlp
import Derived.Test.YthoebjekkfhhgaaGreatIr
set_option linter.unusedVariables false
set_option linter.unusedSimpArgs false
set_option maxRecDepth 100000
set_option maxHeartbeats 8000000
namespace Go.Proofs.YthoebjekkfhhgaaGreat
open Go.RowKit Go.Maps
theorem Places.flat {w : World} {base g n c : Nat} {rs : List RecM} (h : Places w base (.slice (some ⟨g, 0, none⟩) n c) rs) : ∀ i u, (rs.map plR).flatten[i]? = some u -> w.cell? ⟨g, i, none⟩ = some u := fun i u hu => by
 have := World.ownsRow.cells (w := w) h.1 (g := g) rfl i u hu
 simpa [Addr.add_lit] using this
theorem guard_any (b : BinOp) (X Y : Value) (x y : Operand) (w : World) (h : b ≠ .eql /\ b ≠ .neq) : (eqGuard b 3 x y X Y).run Tryz.prog w = .ok () w := by
 unfold eqGuard; simp [h.1, h.2]
theorem add1_run {x z : Nat} (hz : z <= 4294967296) (h : x + 1 = z) (w : World) : (binOp .add 3 (.int .i64 (x : Int)) (.int .i64 1)).run Tryz.prog w = .ok (.int .i64 (z : Int)) w := by
 have e : (x : Int) + 1 = (z : Int) := by omega
 go_simp
 rw [IntKind.wrap_i64]; omega
theorem er_map (rs : List RecM) : ∀ i, (rs.map some).eraseIdx i = (rs.eraseIdx i).map some := by
 induction rs with
 | nil => intro i; simp
 | cons x rs ih =>
   intro i
   cases i with
   | zero => simp
   | succ i => simp [ih i]
theorem packroom_law (Z : DK) (K : FK) (A1 : Option Addr) (n1 c1 : Nat) (z1 : List Int) (A2 : Option Addr) (n2 c2 : Nat) (z2 : List Int) (w : World) (hi1 : HasIr w w.heap.size A1 n1 z1) (hi2 : HasIr w w.heap.size A2 n2 z2) :
 Calls Tryz.prog 5 #[.slice A1 n1 c1, .slice A2 n2 c2] w (RetTrue w) := by
 have CG := lH (fun W => begun11_any Z K W)
 by_cases hl0 : 30 < n1 \/ 60 < n2
 · by_cases hl1 : 30 < n1
   · have hl : (30 : Int) < (n1 : Int) := by omega
     clear hi1 hi2 hl0
     go_enter Tryz.func5, Tryz.ntmps5
     go_wp2_with (first
      | (go_at_call 7; refine (CG.out _).mono ?_; rintro e w1 ⟨rfl, b1⟩
         have B1 := lH b1
         clear b1))
     go_ret
     exact ⟨rfl, B1.out⟩
   · have hl1' : ¬ (30 : Int) < (n1 : Int) := by omega
     have hl : (60 : Int) < (n2 : Int) := by omega
     clear hi1 hi2 hl0 hl1
     go_enter Tryz.func5, Tryz.ntmps5
     go_wp2_with (first
      | (go_at_call 7; refine (CG.out _).mono ?_; rintro e w1 ⟨rfl, b1⟩
         have B1 := lH b1
         clear b1))
     go_ret
     exact ⟨rfl, B1.out⟩
 have hl1' : ¬ (30 : Int) < (n1 : Int) := by omega
 have hl2' : ¬ (60 : Int) < (n2 : Int) := by omega
 have HN : Hid (n1 <= 30 /\ n2 <= 60) := lH (by omega)
 have HI := lH hi1
 have HJ := lH hi2
 have CB := lH (fun W hb => begun_tx Z w W hb 800 60 (by omega) (by omega) (by omega) (by omega) (by omega))
 clear hi1 hi2 hl0
 go_enter Tryz.func5, Tryz.ntmps5
 go_upto_region 8 with (first
  | (go_at_call 7; refine (CG.out _).mono ?_; rintro e w1 ⟨rfl, b1⟩
     have B1 := lH b1
     clear b1)
  | (go_at_call 9; refine (CB.out _ B1.out).mono ?_; rintro e w4 ⟨g, gd, gp, gt, rfl, t4⟩
     have T4 : Hid (T3 Z w w4 g gd gp gt 800 2445 60 0 0 (F8 738) (F8 738) (fun _ => False)) := lH (t3_begun t4)
     clear t4))
 clear CB CG
 obtain ⟨rm, hrm⟩ : ∃ rm, cntF (F8 738 1) 738 = rm := ⟨_, rfl⟩
 have HRM : Hid (∀ b : List UInt8, (∀ x, tkB b x = tkB B0 x) -> cntF b 738 = rm) := lH (fun b hb => by
  rw [<- hrm]
  exact cntF_congr (fun x => by rw [hb x, F8_at (by omega), if_pos (by omega)]; rfl) 738)
 have clf := T4.out.left (by omega) (by omega)
 rw [show 800 - 2 - 60 = 738 from rfl, hrm] at clf
 have CLF := lH clf
 clear clf hrm
 go_upto_region 9 with (first
  | (go_at_call 27; refine CLF.out.mono ?_; rintro e w5 ⟨rfl, t5, y5⟩
     have T5 := lH t5
     clear t5 y5))
 clear CLF T4 B1
 go_wp2_with fail
 go_loopw [6, 9, 10, 11, 12] (fun t v i x e wr => ∃ (k gt' : Nat) (F : Nat -> List UInt8) (m : Nat) (P : Nat -> PkM) (rs : List RecM), k <= n1 /\ i = .int .i64 (k : Int) /\ t = .pointer (some ⟨gt', 0, none⟩) /\ T3 Z w wr g gd gp gt' 800 (2445 + k * 843) 60 0 1 F F (fun b => v.ownBlock = some b) /\ Places wr w.heap.size v rs /\ rs.length = k /\ m <= k /\ RowP 738 m F P /\ RecsOK P (rs.map some)) (fun _ _ i _ _ _ => n1 - (Go.RowKit.intOf i).toNat)
 case atStart => exact ⟨0, gt, F8 738, 0, fun _ => .z, [], by omega, rfl, rfl, T5.out.less (fun b h => by simp [Value.ownBlock] at h), Places.nil _ _, rfl, by omega, RowP.nil (by omega), RecsOK.nil⟩
 case round =>
  clear T5
  obtain ⟨k, gt', F, m, P, rs, hk, rfl, rfl, qt, pl, hrl, hmk, rp, ro⟩ := hrel
  have QT := lH qt
  have PL := lH pl
  have RP := lH rp
  have RO := lH ro
  have RL := lH hrl
  have hn30 := HN.out.1
  obtain ⟨v, hv⟩ : ∃ v', v' = u9 := ⟨_, rfl⟩
  rw [<- hv] at QT PL ⊢
  clear qt pl rp ro hv hrl
  by_cases hlt : k < n1
  · obtain ⟨g0, o0, rfl, hg0, hcl⟩ := HI.out.2.2 (by omega)
    obtain ⟨zz, hzz⟩ : ∃ zz, z1[k]? = some zz := ⟨_, List.getElem?_eq_getElem (by rw [<- HI.out.1]; exact hlt)⟩
    have LA : Hid (∀ Y : World, Below w.heap.size w Y -> (loadVar 3 ⟨g0, o0 + k, none⟩).run Tryz.prog Y = .ok (.int .i64 zz) Y) := lH (fun Y hY => load_intc ((hY.cell hg0).trans (hcl k zz hzz)))
    have hxb := HI.out.2.1 zz (List.mem_of_getElem? hzz)
    have hz9 : plV zz 4201 < 4201 := plV_lt (by omega)
    have cbd := fun W => body_any k (by omega) zz hxb W
    obtain ⟨z, hz⟩ : ∃ z, plV zz 4201 = z := ⟨_, rfl⟩
    rw [hz] at hz9 cbd
    have CBD := lH cbd
    obtain ⟨y, hy⟩ : ∃ y : UInt8, UInt8.ofNat k = y := ⟨_, rfl⟩
    have KYH : Hid (∀ (W : World), Calls Tryz.prog 17 #[.int .u8 (IntKind.u8.wrap (k : Int))] W fun e w' => e = .returned (.agg (cellsB (keyL y)).toArray) /\ Below W.heap.size W w') := lH (fun W => by rw [wrap8b k, hy]; exact key_any y W)
    have HV : Hid (2445 + k * 843 <= 60000) := lH (by omega)
    obtain ⟨kk, aa, hkk, haa, _, cadd⟩ := rec_add (Z := Z) (w0 := w) (g := g) (gd := gd) (gp := gp) (gt := gt') (n := 800) (V := 2445 + k * 843) (r := 60) (q := 0) (c := 1) (F := F) (C := F) K (by omega) (by omega) (by omega) (keyL y) (keyL_len y) (bodyL k z) z (bodyL_len k z) (by omega) RP.out (by omega) (by omega) RO.out
    obtain ⟨S, hS⟩ : ∃ S, z + 46 = S := ⟨_, rfl⟩
    rw [hS] at cadd
    have CADD := lH cadd
    have HXL : Hid (RecM.len ⟨kk, aa, keyL y, bodyL k z⟩ = S) := lH (by rw [<- hS]; show (bodyL k z).length + 46 = _; rw [bodyL_len])
    have hlti : (k : Int) < (n1 : Int) := by omega
    clear cadd cbd hz hzz hxb hcl hS
    go_upto_region 13 with fail
    obtain ⟨wd, hwd⟩ : ∃ W, wr.drew = W := ⟨_, rfl⟩
    have bwd : Below wr.heap.size wr wd := by rw [<- hwd]; exact (Below.refl wr.heap.size wr).drew
    have S0 : Hid (ASt Z w wd g gd gp gt' 800 (2445 + k * 843) 60 0 1 F F (fun b => v.ownBlock = some b) z (bodyL k z) none none wd) := lH (ASt.start (QT.out.up1 bwd))
    have HE : Hid (∀ b, (fun b : Nat => v.ownBlock = some b) b -> b < wd.heap.size) := lH (fun b hb => by have := (QT.out.lt b hb).2; have := bwd.size; omega)
    have BWD := lH bwd
    refine wp_region_held_drew (S := fun Y => Below w.heap.size w Y) (by kernel_rfl) (by rw [hwd]; exact S0.out.t.up) (fun hHeld => ?_)
    rw [hwd] at hHeld ⊢
    refine via2 (A := ?A1) (X := fun p s W => ∃ F', (∃ m' P', m' <= m + 1 /\ RowP 738 m' F' P' /\ RecsOK P' (rs.map some ++ [some ⟨kk, aa, keyL y, bodyL k z⟩])) /\ W.heap[p]? = some (plB (kk : Int) (aa : Int) (S : Int)) /\ T3 Z w W g gd gp gt' 800 (2445 + k * 843) 60 4300 13 F' F (fun b => v.ownBlock = some b \/ b = p) /\ Only (fun b => ¬ v.ownBlock = some b) wd W) ?main1 ?hR1
    case main1 =>
     refine tk9 (i := 0) (h := ?_)
     try simp only [aP,aN,aS,aZ,aC]
     refine tk9 (i := 1) (h := ?_)
     try simp only [aP,aN,aS,aZ,aC]
     refine tk9 (i := 2) (h := ?_)
     try simp only [aP,aN,aS,aZ,aC]
     refine tk9 (i := 4) (h := ?_)
     try simp only [aP,aN,aS,aZ,aC]
     refine tk9 (i := 5) (h := ?_)
     try simp only [aP,aN,aS,aZ,aC]
     refine tk9 (i := 6) (h := ?_)
     try simp only [aP,aN,aS,aZ,aC]
     refine tk9 (i := 7) (h := ?_)
     try simp only [aP,aN,aS,aZ,aC]
     refine tk9 (i := 8) (hy := (yieldsIf_loadG (by rfl) 3 (.tmp 54) rfl ⟨g0, o0 + k, none⟩ rfl (.int .i64 zz) (fun Y hY => LA.out Y hY))) (h := ?_)
     try simp only [aP,aN,aS,aZ,aC]
     refine wpAnyH_ready (rs := [3, 14]) (by kernel_rfl) (by simp) ?_
     refine rc9 (h := fun K hK => ?_) (hs := (rc9 (h := fun K hK => ?_) (hs := AllReadyH.nil)))
     · go_simp
       refine (KYH.out _).mono ?_
       rintro e wk16 ⟨rfl, bk⟩
       have SK17 := lH (S0.out.below bk)
       clear bk
       refine hK _ _ SK17.out.t.up (fun hHx => ?_)
       clear hK K
       try simp only [aP,aN,aS,aZ,aC]
       refine wpAnyH_ready (rs := [9, 14]) (by kernel_rfl) (by simp) ?_
       refine rc9 (h := fun K hK => ?_) (hs := (rc9 (h := fun K hK => ?_) (hs := AllReadyH.nil)))
       · go_simp
         refine (CBD.out _).mono ?_
         rintro e wb18 ⟨gb20, rfl, ob, bb⟩
         have SB19 := lH (SK17.out.data bb ob.has (fun x hx => by injection hx with hx; rw [<- hx]; exact ob.lt gb20 rfl))
         clear ob bb
         refine hK _ _ SB19.out.t.up (fun hHx => ?_)
         clear hK K
         try simp only [aP,aN,aS,aZ,aC]
         refine wpAnyH_ready (rs := [10, 14]) (by kernel_rfl) (by simp) ?_
         refine rc9 (h := fun K hK => ?_) (hs := (rc9 (h := fun K hK => ?_) (hs := AllReadyH.nil)))
         · go_simp
           refine (CADD.out _ _ _ SB19.out.t (SB19.out.m _ rfl) (fun a ha _ => .inr (.inl ⟨a, by rw [ha], rfl⟩))).mono ?_
           rintro e wa21 ⟨FA23, ⟨rfl, t', y'⟩, res⟩
           have SA22 := lH (SB19.out.call t' y')
           have RA24 := lH res
           clear t' y' res
           refine hK _ _ SA22.out.t.up (fun hHx => ?_)
           clear hK K
           try simp only [aP,aN,aS,aZ,aC]
           refine tk9 (i := 11) (h := ?_)
           try simp only [aP,aN,aS,aZ,aC]
           refine tk9 (i := 12) (h := ?_)
           try simp only [aP,aN,aS,aZ,aC]
           refine tk9 (i := 13) (h := ?_)
           try simp only [aP,aN,aS,aZ,aC]
           refine rd9 (i := 14) (h := fun K hK => ?_)
           go_simp
           have SP29 := lH SA22.out.box
           obtain ⟨wp28, hw2⟩ : ∃ W, wa21.alloc (.cells #[.int .i64 0, .int .i64 0, .int .i64 0] 44) = W := ⟨_, rfl⟩
           obtain ⟨pb30, hp2⟩ : ∃ s, wa21.heap.size = s := ⟨_, rfl⟩
           rw [hw2, hp2] at SP29
           have NPpb30 : Hid (wd.heap.size <= pb30) := lH (by rw [<- hp2]; exact SA22.out.y.size)
           rw [hw2]
           simp only [hp2]
           clear hw2 hp2
           refine hK _ _ SP29.out.t.up (fun hHx => ?_)
           clear hK K
           try simp only [aP,aN,aS,aZ,aC]
           have fin := SP29.out.stored HE.out NPpb30.out (kk : Int) (aa : Int) (S : Int)
           refine rd9 (i := 15) (h := fun K hK => ?_)
           refine step_store_row8 (by rfl) 44 (.tmp 11) (.tmp 58) rfl pb30 (plC (kk : Int) (aa : Int) (S : Int)).toArray rfl rfl 44 _ (SP29.out.p pb30 rfl) infoPlace rfl (pl_ones _ _ _) ?_
           refine hK _ _ fin.2.1.up (fun hHx => ?_)
           clear hK K
           try simp only [aP,aN,aS,aZ,aC]
           refine rd9 (i := 16) (h := fun K hK => ?_)
           go_simp
           refine hK _ _ fin.2.1.up (fun hHx => ?_)
           clear hK K
           try simp only [aP,aN,aS,aZ,aC]
           refine wpAnyH_done (by kernel_rfl) (Via.mk ⟨pb30, gb20, ?_, FA23, RA24.out, fin.1, fin.2.1, fin.2.2⟩) _
           rfl
         · go_simp
           have SP32 := lH SB19.out.box
           obtain ⟨wp31, hw2⟩ : ∃ W, wb18.alloc (.cells #[.int .i64 0, .int .i64 0, .int .i64 0] 44) = W := ⟨_, rfl⟩
           obtain ⟨pb33, hp2⟩ : ∃ s, wb18.heap.size = s := ⟨_, rfl⟩
           rw [hw2, hp2] at SP32
           have NPpb33 : Hid (wd.heap.size <= pb33) := lH (by rw [<- hp2]; exact SB19.out.y.size)
           rw [hw2]
           simp only [hp2]
           clear hw2 hp2
           refine hK _ _ SP32.out.t.up (fun hHx => ?_)
           clear hK K
           try simp only [aP,aN,aS,aZ,aC]
           refine rd9 (i := 10) (h := fun K hK => ?_)
           go_simp
           refine (CADD.out _ _ _ SP32.out.t (SP32.out.m _ rfl) (fun a ha _ => .inr (.inl ⟨a, by rw [ha], rfl⟩))).mono ?_
           rintro e wa34 ⟨FA36, ⟨rfl, t', y'⟩, res⟩
           have SA35 := lH (SP32.out.call t' y')
           have RA37 := lH res
           clear t' y' res
           refine hK _ _ SA35.out.t.up (fun hHx => ?_)
           clear hK K
           try simp only [aP,aN,aS,aZ,aC]
           refine tk9 (i := 11) (h := ?_)
           try simp only [aP,aN,aS,aZ,aC]
           refine tk9 (i := 12) (h := ?_)
           try simp only [aP,aN,aS,aZ,aC]
           refine tk9 (i := 13) (h := ?_)
           try simp only [aP,aN,aS,aZ,aC]
           have fin := SA35.out.stored HE.out NPpb33.out (kk : Int) (aa : Int) (S : Int)
           refine rd9 (i := 15) (h := fun K hK => ?_)
           refine step_store_row8 (by rfl) 44 (.tmp 11) (.tmp 58) rfl pb33 (plC (kk : Int) (aa : Int) (S : Int)).toArray rfl rfl 44 _ (SA35.out.p pb33 rfl) infoPlace rfl (pl_ones _ _ _) ?_
           refine hK _ _ fin.2.1.up (fun hHx => ?_)
           clear hK K
           try simp only [aP,aN,aS,aZ,aC]
           refine rd9 (i := 16) (h := fun K hK => ?_)
           go_simp
           refine hK _ _ fin.2.1.up (fun hHx => ?_)
           clear hK K
           try simp only [aP,aN,aS,aZ,aC]
           refine wpAnyH_done (by kernel_rfl) (Via.mk ⟨pb33, gb20, ?_, FA36, RA37.out, fin.1, fin.2.1, fin.2.2⟩) _
           rfl
       · go_simp
         have SP42 := lH SK17.out.box
         obtain ⟨wp41, hw2⟩ : ∃ W, wk16.alloc (.cells #[.int .i64 0, .int .i64 0, .int .i64 0] 44) = W := ⟨_, rfl⟩
         obtain ⟨pb43, hp2⟩ : ∃ s, wk16.heap.size = s := ⟨_, rfl⟩
         rw [hw2, hp2] at SP42
         have NPpb43 : Hid (wd.heap.size <= pb43) := lH (by rw [<- hp2]; exact SK17.out.y.size)
         rw [hw2]
         simp only [hp2]
         clear hw2 hp2
         refine hK _ _ SP42.out.t.up (fun hHx => ?_)
         clear hK K
         try simp only [aP,aN,aS,aZ,aC]
         refine rd9 (i := 9) (h := fun K hK => ?_)
         go_simp
         refine (CBD.out _).mono ?_
         rintro e wb44 ⟨gb46, rfl, ob, bb⟩
         have SB45 := lH (SP42.out.data bb ob.has (fun x hx => by injection hx with hx; rw [<- hx]; exact ob.lt gb46 rfl))
         clear ob bb
         refine hK _ _ SB45.out.t.up (fun hHx => ?_)
         clear hK K
         try simp only [aP,aN,aS,aZ,aC]
         refine rd9 (i := 10) (h := fun K hK => ?_)
         go_simp
         refine (CADD.out _ _ _ SB45.out.t (SB45.out.m _ rfl) (fun a ha _ => .inr (.inl ⟨a, by rw [ha], rfl⟩))).mono ?_
         rintro e wa47 ⟨FA49, ⟨rfl, t', y'⟩, res⟩
         have SA48 := lH (SB45.out.call t' y')
         have RA50 := lH res
         clear t' y' res
         refine hK _ _ SA48.out.t.up (fun hHx => ?_)
         clear hK K
         try simp only [aP,aN,aS,aZ,aC]
         refine tk9 (i := 11) (h := ?_)
         try simp only [aP,aN,aS,aZ,aC]
         refine tk9 (i := 12) (h := ?_)
         try simp only [aP,aN,aS,aZ,aC]
         refine tk9 (i := 13) (h := ?_)
         try simp only [aP,aN,aS,aZ,aC]
         have fin := SA48.out.stored HE.out NPpb43.out (kk : Int) (aa : Int) (S : Int)
         refine rd9 (i := 15) (h := fun K hK => ?_)
         refine step_store_row8 (by rfl) 44 (.tmp 11) (.tmp 58) rfl pb43 (plC (kk : Int) (aa : Int) (S : Int)).toArray rfl rfl 44 _ (SA48.out.p pb43 rfl) infoPlace rfl (pl_ones _ _ _) ?_
         refine hK _ _ fin.2.1.up (fun hHx => ?_)
         clear hK K
         try simp only [aP,aN,aS,aZ,aC]
         refine rd9 (i := 16) (h := fun K hK => ?_)
         go_simp
         refine hK _ _ fin.2.1.up (fun hHx => ?_)
         clear hK K
         try simp only [aP,aN,aS,aZ,aC]
         refine wpAnyH_done (by kernel_rfl) (Via.mk ⟨pb43, gb46, ?_, FA49, RA50.out, fin.1, fin.2.1, fin.2.2⟩) _
         rfl
     · go_simp
       have SP55 := lH S0.out.box
       obtain ⟨wp54, hw2⟩ : ∃ W, wd.alloc (.cells #[.int .i64 0, .int .i64 0, .int .i64 0] 44) = W := ⟨_, rfl⟩
       obtain ⟨pb56, hp2⟩ : ∃ s, wd.heap.size = s := ⟨_, rfl⟩
       rw [hw2, hp2] at SP55
       have NPpb56 : Hid (wd.heap.size <= pb56) := lH (by rw [<- hp2]; exact S0.out.y.size)
       rw [hw2]
       simp only [hp2]
       clear hw2 hp2
       refine hK _ _ SP55.out.t.up (fun hHx => ?_)
       clear hK K
       try simp only [aP,aN,aS,aZ,aC]
       refine rd9 (i := 3) (h := fun K hK => ?_)
       go_simp
       refine (KYH.out _).mono ?_
       rintro e wk57 ⟨rfl, bk⟩
       have SK58 := lH (SP55.out.below bk)
       clear bk
       refine hK _ _ SK58.out.t.up (fun hHx => ?_)
       clear hK K
       try simp only [aP,aN,aS,aZ,aC]
       refine rd9 (i := 9) (h := fun K hK => ?_)
       go_simp
       refine (CBD.out _).mono ?_
       rintro e wb59 ⟨gb61, rfl, ob, bb⟩
       have SB60 := lH (SK58.out.data bb ob.has (fun x hx => by injection hx with hx; rw [<- hx]; exact ob.lt gb61 rfl))
       clear ob bb
       refine hK _ _ SB60.out.t.up (fun hHx => ?_)
       clear hK K
       try simp only [aP,aN,aS,aZ,aC]
       refine rd9 (i := 10) (h := fun K hK => ?_)
       go_simp
       refine (CADD.out _ _ _ SB60.out.t (SB60.out.m _ rfl) (fun a ha _ => .inr (.inl ⟨a, by rw [ha], rfl⟩))).mono ?_
       rintro e wa62 ⟨FA64, ⟨rfl, t', y'⟩, res⟩
       have SA63 := lH (SB60.out.call t' y')
       have RA65 := lH res
       clear t' y' res
       refine hK _ _ SA63.out.t.up (fun hHx => ?_)
       clear hK K
       try simp only [aP,aN,aS,aZ,aC]
       refine tk9 (i := 11) (h := ?_)
       try simp only [aP,aN,aS,aZ,aC]
       refine tk9 (i := 12) (h := ?_)
       try simp only [aP,aN,aS,aZ,aC]
       refine tk9 (i := 13) (h := ?_)
       try simp only [aP,aN,aS,aZ,aC]
       have fin := SA63.out.stored HE.out NPpb56.out (kk : Int) (aa : Int) (S : Int)
       refine rd9 (i := 15) (h := fun K hK => ?_)
       refine step_store_row8 (by rfl) 44 (.tmp 11) (.tmp 58) rfl pb56 (plC (kk : Int) (aa : Int) (S : Int)).toArray rfl rfl 44 _ (SA63.out.p pb56 rfl) infoPlace rfl (pl_ones _ _ _) ?_
       refine hK _ _ fin.2.1.up (fun hHx => ?_)
       clear hK K
       try simp only [aP,aN,aS,aZ,aC]
       refine rd9 (i := 16) (h := fun K hK => ?_)
       go_simp
       refine hK _ _ fin.2.1.up (fun hHx => ?_)
       clear hK K
       try simp only [aP,aN,aS,aZ,aC]
       refine wpAnyH_done (by kernel_rfl) (Via.mk ⟨pb56, gb61, ?_, FA64, RA65.out, fin.1, fin.2.1, fin.2.2⟩) _
       rfl
    case hR1 =>
     rintro p s W' ⟨F', ⟨m', P', hm', rp', ro'⟩, zb, t', y'⟩
     have RP' := lH rp'
     have RO' := lH ro'
     have PL' := lH ((OwnM.below PL.out BWD.out).only y' (fun b hb h => h hb))
     have CC := lH (t'.commit (by have := HV.out; omega) (by omega) (by omega) (by omega))
     have ZB := lH zb
     clear rp' ro' zb t' y'
     go_upto_region 16 with (first
      | (go_at_call 13; refine CC.out.mono ?_; rintro e w8 ⟨rfl, jn, y8⟩
         have JN := lH jn
         have PL8 : Hid (Places w8 w.heap.size v rs) := lH (OwnM.only PL'.out y8 (fun b hb h => h (.inl hb)))
         have LP8 := lH (ld_place ((y8.block p (Array.getElem?_eq_some_iff.1 ZB.out).1 (fun h => h (.inr rfl))).trans ZB.out))
         clear jn y8))
     clear CC PL' ZB
     go_upto_region 17 with (first
      | (refine wpList_load8 rfl 44 (.tmp 11) rfl ⟨p, 0, none⟩ rfl _ LP8.out ?_)
      | (at_builtin; go_loud (refine wp_appM rfl (.tmp 67) (.tmp 69) 42 44 3 24 rfl Tryz.underlying42 infoPl (by decide) w.heap.size v (rs.map plR) (plC (kk : Int) (aa : Int) (S : Int)) rfl (OwnM.below PL8.out ((Below.refl _ _).alloc (Nat.le_refl _) _)) ⟨w8.heap.size, 0, none⟩ 1 rfl rfl (fun j u hj => by rw [Addr.add_lit, Nat.zero_add, cell_of_row _ _ _ _ _ _ (heap_alloc_new w8 _)]; simpa [plC] using hj) (fun u hu => pl_ones (kk : Int) (aa : Int) (S : Int) u (by simpa using hu)) (by rw [List.length_map, RL.out]; omega) (by have := JN.out.up.size; simp; omega) ?_); intro A10 n10 c10 w10 o10 g10 b10 h10
         have ba : Below w8.heap.size w8 (w8.alloc (.cells #[.int .i64 (kk : Int), .int .i64 (aa : Int), .int .i64 (S : Int)] 44)) := (Below.refl w8.heap.size w8).alloc (Nat.le_refl _) _
         have JN9 := JN.out.add (E' := fun b => v.ownBlock = some b) (Only.of_below ba (Nat.le_refl _)) (fun b hb => .inl (.inl hb))
         have JNA := lH (JN9.add (E' := fun b => (Value.slice A10 n10 c10).ownBlock = some b) ((Only.grownO g10).mono (fun _ _ h => .inl h)) (fun j hj => by
          rcases h10 with h | h
          · exact .inl (h ▸ hj)
          · have h1 := (OwnM.lt o10 j hj).2
            rw [h] at hj
            injection hj with hj
            exact .inr ⟨by omega, h1⟩))
         have PL10 : Hid (Places w10 w.heap.size (.slice A10 n10 c10) (rs ++ [⟨kk, aa, keyL y, bodyL k z⟩])) := lH (by
          unfold Places
          rw [List.map_append, List.map_cons, List.map_nil, show plR ⟨kk, aa, keyL y, bodyL k z⟩ = plC (kk : Int) (aa : Int) (S : Int) from by unfold plR; rw [HXL.out]]
          exact o10)
         clear o10 g10 b10 h10 ba JN9))
     have BG := lH (JNA.out.begin3 (by have := HV.out; omega))
     go_wp2_with (first
      | (go_at_call 14; refine BG.out.mono ?_; rintro e w12 ⟨gt2, rfl, t12, y12⟩
         have T12 := lH (t12.more (V' := 2445 + (k + 1) * 843) (q2 := 0) (c2 := 1) (by omega) (Nat.le_refl _) (by omega))
         have PL12 : Hid (Places w12 w.heap.size (.slice A10 n10 c10) (rs ++ [⟨kk, aa, keyL y, bodyL k z⟩])) := lH (OwnM.only PL10.out y12 (fun b hb h => h hb))
         clear t12 y12))
     go_roundw
     case rel => exact ⟨k + 1, gt2, F', m', P', rs ++ [⟨kk, aa, keyL y, bodyL k z⟩], by omega, by go_num, rfl, T12.out, PL12.out, by rw [List.length_append, RL.out]; rfl, by omega, RP'.out, by rw [List.map_append]; exact RO'.out⟩
     case measure => simp [Go.RowKit.intOf]; omega
  · have hkn : n1 = k := by omega
    subst hkn
    have DR : Hid (Dropd 738 (rs.map some) F P) := lH ⟨RP.out.inv, RO.out, RP.out.tkp⟩
    have HK30 : Hid (n1 <= 30) := lH hn30
    clear RP RO
    go_wp2_with fail
    go_loopw [6, 9, 13, 14] (fun t v i kv wr => ∃ (j gt' : Nat) (F : Nat -> List UInt8) (P : Nat -> PkM) (rs : List RecM), i = .int .i64 (j : Int) /\ t = .pointer (some ⟨gt', 0, none⟩) /\ T3 Z w wr g gd gp gt' 800 (2445 + n1 * 843 + j * 843) 60 0 1 F F (fun b => v.ownBlock = some b) /\ Places wr w.heap.size v rs /\ j + rs.length = n1 /\ Dropd 738 (rs.map some) F P) (fun _ _ i _ _ => n1 - (Go.RowKit.intOf i).toNat)
    case atStart => exact ⟨0, gt', F, P, rs, rfl, rfl, QT.out.more (by omega) (Nat.le_refl _) (Nat.le_refl _), PL.out, by rw [RL.out]; omega, DR.out⟩
    case round =>
     clear QT PL DR RL
     obtain ⟨j, gt', F, P, rs, rfl, rfl, qt, pl, hj, dr⟩ := hrel
     obtain ⟨A9, c9, hv9⟩ := pl.slice
     subst hv9
     have QT := lH qt
     have PL := lH pl
     have DR := lH dr
     have RJ := lH hj
     have hn30 := HK30.out
     have HV : Hid (2445 + n1 * 843 + j * 843 <= 60000) := lH (by omega)
     clear qt pl dr
     by_cases he : rs.length = 0
     · obtain rfl : rs = [] := List.eq_nil_of_length_eq_zero he
       obtain ⟨htk, h00⟩ := Dropd.none DR.out
       have clf := QT.out.left (by have := HV.out; omega) (by omega)
       rw [show 800 - 2 - 60 = 738 from rfl, HRM.out _ htk] at clf
       have CLF := lH clf
       have LE : Hid (∀ W E c, T3 Z w W g gd gp gt' 800 (2445 + n1 * 843 + j * 843) 60 0 c F F E -> Calls Tryz.prog 32 #[.pointer (some ⟨gt', 0, none⟩), .int .i64 0] W fun en W' => en = .returned (.tuple #[.slice none 0 0, .int .i64 1]) /\ Below w.heap.size w W') := lH (fun W E c t => plist_err (by decide) (sld_no (k := 0) DR.out.1 (by have := HV.out; omega) (by unfold Bd; omega) (.inr (.inr h00)) W E t))
       clear clf htk h00 he hj
       go_wp2_with (first
        | (go_at_call 27; refine CLF.out.mono ?_; rintro e w5 ⟨rfl, t5, y5⟩
           have CLE := lH (LE.out _ _ _ t5)
           clear t5 y5)
        | (go_at_call 32; refine CLE.out.mono ?_; rintro e w6 ⟨rfl, b6⟩
           have B6 := lH b6
           clear b6))
       go_ret
       exact ⟨rfl, B6.out⟩
     · have hpos : (0 : Int) < (rs.length : Int) := by omega
       obtain ⟨L, hL⟩ : ∃ L, rs.length = L := ⟨_, rfl⟩
       have HL := lH hL
       rw [hL] at he hpos hj ⊢
       clear hL
       go_upto_if 84 with fail
       go_cut [14] (fun s14 wx => (∃ x : Nat, x < L /\ s14 = .int .i64 (x : Int)) /\ wr = wx)
       case first =>
        by_cases hj2 : j < n2
        · obtain ⟨g2, o2, rfl, hg2, hcl2⟩ := HJ.out.2.2 (by omega)
          obtain ⟨zz, hzz⟩ : ∃ zz, z2[j]? = some zz := ⟨_, List.getElem?_eq_getElem (by rw [<- HJ.out.1]; exact hj2)⟩
          have k0 : wr.cell? ⟨g2, o2 + j, none⟩ = some (.int .i64 zz) := (QT.out.up.cell hg2).trans (hcl2 j zz hzz)
          have CP := lH (fun W => place_any zz L W (HJ.out.2.1 zz (List.mem_of_getElem? hzz)) (by omega) (by omega))
          clear hcl2 hzz
          go_wp2_with (first
           | (go_at_call 8; refine (CP.out _).mono ?_; rintro e w6 ⟨⟨x, hx, rfl⟩, rfl⟩))
          go_meet
          exact ⟨⟨x, hx, rfl⟩, rfl⟩
        · go_wp2_with fail
          go_meet
          exact ⟨⟨0, by omega, rfl⟩, rfl⟩
       case rest =>
        obtain ⟨⟨x, hx, rfl⟩, rfl⟩ := hcut
        obtain ⟨r, hr⟩ : ∃ r, rs[x]? = some r := ⟨_, List.getElem?_eq_getElem (by rw [HL.out]; exact hx)⟩
        obtain ⟨gv, hA9, hgv1, hgv2, hcells⟩ := Places.at_ PL.out (by rw [HL.out]; omega)
        subst hA9
        have LP := lH (ld_plI (hcells x r hr))
        have hcap := (OwnM.caps PL.out)
        rw [HL.out] at hcap
        have HCAP := lH hcap
        have CD := lH (pdrop_rec K QT.out (by have := HV.out; omega) (by omega) (by omega) DR.out.1 DR.out.2.1 DR.out.2.2 (x := r) (os' := (rs.eraseIdx x).map some) (List.mem_map.2 ⟨r, List.mem_of_getElem? hr, rfl⟩) (fun y hy => by
         obtain ⟨y', hy', e⟩ := List.mem_map.1 hy
         injection e with e
         subst e
         exact List.mem_map.2 ⟨y', List.mem_of_mem_eraseIdx hy', rfl⟩) (fun k => by
         rw [<- er_map]
         exact sum_erase (by rw [List.getElem?_map, hr]; rfl)))
        have hxL : (x : Int) < (L : Int) := by omega
        clear hcells hr hcap
        go_upto_region 26 with (first
         | (refine wpList_load8 rfl 44 (.tmp 95) rfl ⟨gv, x * 3, none⟩ rfl _ LP.out ?_)
         | (go_at_call 30; refine CD.out.mono ?_; rintro e w7 ⟨rfl, F7, P7, t7, d7, y7⟩
            have CC := lH (t7.commit (by have := HV.out; omega) (by omega) (by omega) (by omega))
            have D7 := lH d7
            have PL7 : Hid (Places w7 w.heap.size _ rs) := lH (OwnM.only PL.out y7 (fun b hb h => h hb))
            clear t7 d7 y7)
         | (go_at_call 13; refine CC.out.mono ?_; rintro e w8 ⟨rfl, jn, y8⟩
            have BG := lH (jn.begin3 (by have := HV.out; omega))
            have PL8 : Hid (Places w8 w.heap.size _ rs) := lH (OwnM.only PL7.out y8 (fun b hb h => h hb))
            clear jn y8))
        clear CD CC PL7 LP
        go_upto_region 27 with (first
         | (go_at_call 14; refine BG.out.mono ?_; rintro e w10 ⟨gt2, rfl, t10, y10⟩
            have T10 := lH t10
            have PL10 : Hid (Places w10 w.heap.size _ rs) := lH (OwnM.only PL8.out y10 (fun b hb h => h hb))
            clear t10 y10))
        clear BG PL8
        obtain ⟨x1, hx1⟩ : ∃ x1, x + 1 = x1 := ⟨_, rfl⟩
        have HX1 := lH hx1
        have hLb : L <= 30 := by have := RJ.out; have := HL.out; omega
        have AD : Hid (∀ W : World, (binOp .add 3 (.int .i64 (x : Int)) (.int .i64 1)).run Tryz.prog W = .ok (.int .i64 (x1 : Int)) W) := lH (fun W => add1_run (by omega) hx1 W)
        have hx3 : x1 <= L := by omega
        have hx4 : L <= c9 := HCAP.out.1
        have hx5 : x <= c9 := by omega
        have hx6 : x1 <= c9 := by omega
        clear hx1
        obtain ⟨wd, hwd⟩ : ∃ W, w10.drew = W := ⟨_, rfl⟩
        have TD : Hid (T3 Z w wd g gd gp gt2 800 (2445 + n1 * 843 + j * 843 + 800 + 43) 60 0 0 F7 F7 (fun b => b = gv)) := lH (hwd ▸ (T10.out.less (fun b hb => by rw [hb]; rfl)).up1 (Below.refl w10.heap.size w10).drew)
        have PD : Hid (Places wd w.heap.size (.slice (some ⟨gv, 0, none⟩) rs.length c9) rs) := lH (hwd ▸ OwnM.below PL10.out (Below.refl w10.heap.size w10).drew)
        refine wp_region_held_drew (S := fun _ => True) (by kernel_rfl) trivial (fun hHeld => ?_)
        rw [hwd]
        clear hwd T10 PL10
        refine tk9 (i := 1) (h := ?_)
        try simp only [aP,aN,aS,aZ,aC]
        refine tk9 (i := 2) (h := ?_)
        try simp only [aP,aN,aS,aZ,aC]
        refine tk9 (i := 3) (h := ?_)
        try simp only [aP,aN,aS,aZ,aC]
        refine tk9 (i := 5) (h := ?_)
        try simp only [aP,aN,aS,aZ,aC]
        refine tk9 (i := 6) (h := ?_)
        try simp only [aP,aN,aS,aZ,aC]
        refine tk9 (i := 7) (hy := (yieldsIf_binP (by rfl) .add 3 3 (.tmp 115) (.const (.int .i64 1)) rfl (.int .i64 (x : Int)) (.int .i64 1) (.int .i64 (x1 : Int)) rfl rfl (fun w => guard_any _ _ _ _ _ w (by decide)) AD.out)) (h := ?_)
        try simp only [aP,aN,aS,aZ,aC]
        refine tk9 (i := 8) (h := ?_)
        try simp only [aP,aN,aS,aZ,aC]
        generalize hAD : (if c9 = x1 then some (⟨gv, 0, none⟩ : Addr) else some ⟨gv, x1 * 3, none⟩) = AD0
        obtain ⟨ad, had, hadr⟩ : ∃ ad, AD0 = some ad /\ (c9 = x1 \/ ad = ⟨gv, x1 * 3, none⟩) := by
         rw [<- hAD]
         split
         · next h => exact ⟨_, rfl, .inl h⟩
         · exact ⟨_, rfl, .inr rfl⟩
        subst had
        have HAD := lH hadr
        clear hAD hadr
        refine rd9 (i := 0) (h := fun K hK => ?_)
        go_simp
        have hwb : w.heap.size <= wd.heap.size := TD.out.up.size
        have o0 := OwnM.empty wd w.heap.size hwb
        have b0 : Below wd.heap.size wd (wd.alloc (.cells #[] 44)) := (Below.refl wd.heap.size wd).alloc (Nat.le_refl _) _
        have sz0 : (wd.alloc (.cells #[] 44)).heap.size = wd.heap.size + 1 := by simp
        obtain ⟨w11, hw11⟩ : ∃ W, wd.alloc (.cells #[] 44) = W := ⟨_, rfl⟩
        rw [hw11] at o0 b0 sz0
        rw [hw11]
        have hgvB : gv < wd.heap.size := (TD.out.lt gv rfl).2
        obtain ⟨B0, hB0⟩ : ∃ B, wd.heap.size = B := ⟨_, rfl⟩
        have t11 : T3 Z w w11 g gd gp gt2 800 (2445 + n1 * 843 + j * 843 + 800 + 43) 60 0 0 F7 F7 (fun b => b = gv \/ b = B0) := TD.out.add (Only.of_below b0 (Nat.le_refl _)) (fun b hb => hb.imp id (fun h => ⟨by omega, by omega⟩))
        have PL11 : Hid (Places w11 w.heap.size (.slice (some ⟨gv, 0, none⟩) rs.length c9) rs) := lH (OwnM.below PD.out b0)
        rw [hB0] at o0 sz0 hgvB
        simp only [hB0]
        have O0 := lH o0
        have T11 := lH t11
        have hwB : w.heap.size <= w11.heap.size := by have := b0.size; omega
        clear hw11 o0 t11 b0 hwb
        refine hK _ _ trivial (fun hHx => ?_)
        clear hK K
        try simp only [aP,aN,aS,aZ,aC]
        refine rd9 (i := 4) (h := fun K hK => ?_)
        refine step_appMs (by rfl) (.tmp 109) (.tmp 112) 42 44 3 24 rfl Tryz.underlying42 infoPl (by decide) w.heap.size (.slice (some ⟨B0, 0, none⟩) 0 0) [] ((rs.take x).map plR) rfl O0.out ⟨gv, 0, none⟩ x c9 rfl (by rw [List.length_map, List.length_take, HL.out]; omega) (pl_len3 _) (fun i u hu => by
         rw [flat_take, List.getElem?_take] at hu
         split at hu
         · rw [Addr.add_lit, Nat.zero_add]; exact PL11.out.flat i u hu
         · cases hu) (pl_ones2 _) (by simp; omega) hwB ?_
        intro A4 n4 c4 w12 o4 g4 b4 h4
        have O4 := lH o4
        have PL12 : Hid (Places w12 w.heap.size (.slice (some ⟨gv, 0, none⟩) rs.length c9) rs) := lH (OwnM.only PL11.out (Only.grownO g4) (fun b hb h => by
         have e1 : gv = b := Option.some.inj hb
         have e2 : B0 = b := Option.some.inj h
         omega))
        have T12 : Hid (T3 Z w w12 g gd gp gt2 800 (2445 + n1 * 843 + j * 843 + 800 + 43) 60 0 0 F7 F7 (fun b => b = gv \/ (Value.slice A4 n4 c4).ownBlock = some b)) := lH (T11.out.add ((Only.grownO g4).mono (fun b _ h => .inl (.inr (Option.some.inj h).symm))) (fun b hb => by
         rcases hb with hb | hb
         · exact .inl (.inl hb)
         · rcases h4 with h | h
           · rw [h] at hb
             have e2 : B0 = b := Option.some.inj hb
             exact .inl (.inr e2.symm)
           · have h1 := (OwnM.lt o4 b hb).2
             rw [h] at hb
             injection hb with hb
             exact .inr ⟨by omega, h1⟩))
        have hwB2 : w.heap.size <= w12.heap.size := by have := b4.size; omega
        have HNE : Hid (∀ b, (Value.slice A4 n4 c4).ownBlock = some b -> b ≠ gv) := lH (fun b hb e => by
         rcases h4 with h | h
         · rw [h] at hb
           have e2 : B0 = b := Option.some.inj hb
           omega
         · rw [h] at hb
           injection hb with hb
           omega)
        clear o4 g4 b4 h4
        refine hK _ _ trivial (fun hHx => ?_)
        clear hK K
        try simp only [aP,aN,aS,aZ,aC]
        refine rd9 (i := 9) (h := fun K hK => ?_)
        refine step_appMs (by rfl) (.tmp 113) (.tmp 117) 42 44 3 24 rfl Tryz.underlying42 infoPl (by decide) w.heap.size (.slice A4 n4 c4) ([] ++ (rs.take x).map plR) ((rs.drop x1).map plR) rfl O4.out ad (L - x1) (c9 - x1) rfl (by rw [List.length_map, List.length_drop, HL.out]) (pl_len3 _) (fun i u hu => by
         rcases HAD.out with h | h
         · have hd : rs.drop x1 = [] := List.drop_of_length_le (by rw [HL.out]; omega)
           rw [hd] at hu
           simp at hu
         · rw [h, Addr.add_lit]
           rw [<- flat_drop, List.getElem?_drop] at hu
           exact PL12.out.flat _ u hu) (pl_ones2 _) (by simp; omega) hwB2 ?_
        intro A5 n5 c5 w13 o5 g5 b5 h5
        have PL13 : Hid (Places w13 w.heap.size (.slice A5 n5 c5) (rs.eraseIdx x)) := lH (by
         unfold Places
         rw [List.eraseIdx_eq_take_drop_succ, HX1.out, List.map_append]
         exact o5)
        have T13 : Hid (T3 Z w w13 g gd gp gt2 800 (2445 + n1 * 843 + j * 843 + 800 + 43) 60 0 0 F7 F7 (fun b => (Value.slice A5 n5 c5).ownBlock = some b)) := lH (T12.out.add ((Only.grownO g5).mono (fun b _ h => .inl (.inr h))) (fun b hb => by
         rcases h5 with h | h
         · rw [h] at hb
           exact .inl (.inr hb)
         · have h1 := (OwnM.lt o5 b hb).2
           rw [h] at hb
           injection hb with hb
           exact .inr ⟨by omega, h1⟩))
        clear o5 g5 b5 h5
        refine hK _ _ trivial (fun hHx => ?_)
        clear hK K
        try simp only [aP,aN,aS,aZ,aC]
        refine rd9 (i := 10) (h := fun K hK => ?_)
        go_simp
        refine hK _ _ trivial (fun hHx => ?_)
        clear hK K
        try simp only [aP,aN,aS,aZ,aC]
        refine wpAnyH_done (by kernel_rfl) ?_ _
        have T14 : Hid (T3 Z w w13 g gd gp gt2 800 (2445 + n1 * 843 + (j + 1) * 843) 60 0 1 F7 F7 (fun b => (Value.slice A5 n5 c5).ownBlock = some b)) := lH (T13.out.more (by omega) (Nat.le_refl _) (by omega))
        clear T13 T12 T11 O0 O4 PL11 PL12 TD PD
        go_wp2_with fail
        go_roundw
        case rel => exact ⟨j + 1, gt2, F7, P7, rs.eraseIdx x, by go_num, rfl, T14.out, PL13.out, by rw [List.length_eraseIdx_of_lt (by rw [HL.out]; exact hx), HL.out]; omega, D7.out⟩
        case measure => simp [Go.RowKit.intOf]; omega
end Go.Proofs.YthoebjekkfhhgaaGreat
