/-
  Own work. The statements of layer 7: TxnNone.
-/
import Derived.Test.YthfmkdeglceppaaTg
import Derived.Test.YthfmkdeglceppaaNj
namespace Go.Proofs.Ythfmkdeglceppaa
open Go.RowKit Go.Maps
set_option linter.unusedVariables false
set_option linter.unusedSimpArgs false

section
variable {Z : DK} {w0 w W W' : World} {gt g gd gp n V T u r : Nat} {p : Pt} {j : JM} {H : Nat → List UInt8} {B : Nat → Prop}
/-- A Power beside a journal in memory. -/
theorem UpB.power (a : UpB Z w0 W g gd gp n p j B) (ok : p.m.Ok n) (hp : p.m.powers < 1073741824) (A : Option Addr) (q c : Nat) (keep : List Bool) (hk : ∀ S : Nat → Prop, (∀ k, S k → w0.heap.size ≤ k) → (∀ k, B k → ¬ S k) → HasNo W S A q keep) (h1 : q ≤ c) (h2 : q ≤ 1073741824) :
    Calls Try.prog 22 #[.pointer (some ⟨gd, 0, none⟩), .slice A q c] W fun en W' => en = .returned (.tuple #[]) ∧ UpB Z w0 W' g gd gp n ⟨p.m.powerM n keep, p.e⟩ j B ∧ Only (fun k => ¬ B k) W W' := by
  obtain ⟨S, d, o, a1, a2, a3, a4, a5⟩ := a
  refine (Z.power_any A q c keep d.d ok hp (hk S d.s0 (fun k hk' => (a5 k hk').1)) h1 h2).mono ?_
  rintro en W' ⟨he, ⟨S', d', hs⟩, ho⟩
  have hz := d.bel.size
  have hsz := ho.size
  have hlt := o.lt
  have hltp := o.ltp
  refine ⟨he, ⟨S', ⟨d', fun k hk => (hs k hk).elim (d.s0 k) (fun h' => by omega), d.bel.trans (ho.to_below d.s0 hz)⟩, o.only ho a1 a2, fun hh => (hs g hh).elim a1 (fun h => by omega), fun hh => (hs gp hh).elim a2 (fun h => by omega), a3, a4, fun k hk => ?_⟩, ho.mono (fun k _ hk hb' => (a5 k hb').1 hk)⟩
  obtain ⟨q1, q2, q3, q4, q5⟩ := a5 k hk
  exact ⟨fun hh => (hs k hh).elim q1 (fun h' => by omega), q2, q3, q4, by omega⟩
set_option maxRecDepth 100000 in
theorem tbegin_nil (w : World) : Calls Try.prog 31 #[.pointer none] w (RetW w (.tuple #[.pointer none, .int .i64 1])) := by
  have C := Lib.hid (noj_commit (w := w) (p := none) (.inl rfl))
  go_enter Try.func31, Try.ntmps31
  go_wp2_with (go_at_call 21; refine C.out.mono ?_; rintro e w1 ⟨rfl, rfl⟩)
  go_ret2
  exact ⟨rfl, rfl⟩
set_option maxRecDepth 100000 in
theorem tbegin_dead (u : UpB Z w0 w g gd gp n p j B) (ok : p.m.Ok n) (hw : p.m.wrote ≤ 1073720000) (hu : j.used ≤ j.k.ring) (hc : chkE p j ≠ 0) :
    Calls Try.prog 31 #[.pointer (some ⟨g, 0, none⟩)] w fun en W' => en = .returned (.tuple #[.pointer none, .int .i64 8]) ∧ UpB Z w0 W' g gd gp n p j B ∧ Only (fun k => ¬ B k) w W' := by
  have hc2 : cmt p n j [] = ⟨8, p, j⟩ := by unfold cmt; rw [if_pos hc]
  have C0 := u.commitC ok hw none 0 0 [] (hasPu_nil w) (by omega) (by simp) hu
  rw [hc2] at C0
  have C := Lib.hid C0
  clear C0 hc2 hc hw hu ok u
  go_enter Try.func31, Try.ntmps31
  go_wp2_with (go_at_call 21; refine C.out.mono ?_; rintro e w1 ⟨rfl, u1, y1⟩
               have U1 := Lib.hid u1
               have Y1 := Lib.hid y1
               clear u1 y1)
  go_ret2
  exact ⟨rfl, U1.out, Y1.out⟩
set_option maxRecDepth 100000 in
theorem tabort_nil (w : World) : Calls Try.prog 37 #[.pointer none] w (RetW w (.tuple #[])) := by
  go_enter Try.func37, Try.ntmps37
  go_wp2_with fail
  go_end0
  exact ⟨rfl, rfl⟩
set_option maxRecDepth 100000 in
set_option maxHeartbeats 4000000 in
theorem txnnone_law (Z : DK) (w : World) : Calls Try.prog 10 #[] w (RetTrue w) := by
  have CB := Lib.hid (fun W => begun7_any Z W)
  have CM : Hid (∀ W, Calls Try.prog 30 #[.int .i64 64, .int .i64 16] W (MadeUp Z W 64 16)) := Lib.hid (fun W => made_any Z W W (Below.refl _ _) 64 16 (by omega) (by omega) (by omega) (by omega) (by omega))
  have CBN := Lib.hid (fun W => tbegin_nil W)
  have CAN := Lib.hid (fun W => tabort_nil W)
  have TNn : Hid (∀ W, TN W (.pointer none)) := Lib.hid (fun W => .inl rfl)
  have hz0 : TZ (w.alloc (.cells #[.pointer none, .int .u64 0, .map none] 74)) w.heap.size := heap_alloc_new w _
  have HZ0 := Lib.hid hz0
  have hbz : Below w.heap.size w (w.alloc (.cells #[.pointer none, .int .u64 0, .map none] 74)) := (Below.refl _ w).alloc (Nat.le_refl _) _
  have BZ := Lib.hid hbz
  clear hz0 hbz
  go_enter Try.func10, Try.ntmps10
  go_upto_region 3 with fail
  obtain ⟨w1, hw1⟩ : ∃ w1, w.alloc (.cells #[.pointer none, .int .u64 0, .map none] 74) = w1 := ⟨_, rfl⟩
  rw [hw1] at HZ0 BZ ⊢
  have hgt1 : w.heap.size < w1.heap.size := HZ0.out.lt
  obtain ⟨gz, hgz⟩ : ∃ gz, w.heap.size = gz := ⟨_, rfl⟩
  have HGZ := Lib.hid hgz
  rw [hgz]
  rw [hgz] at HZ0 hgt1
  clear hw1 hgz
  go_upto_region 7 with (first
    | (go_at_call_of 31 (Value.pointer none); refine (CBN.out _).mono ?_; rintro e w2 ⟨rfl, rfl⟩)
    | (go_at_call 30; refine (CM.out _).mono ?_; rintro e w3 ⟨gd, g, gp, p, j, rfl, u3, s3, pw3⟩
       have HZ3 : Hid (TZ w3 gz) := Lib.hid ((u3.up.bel.block _ hgt1).trans HZ0.out)
       have U3 := Lib.hid u3
       have S3 := Lib.hid s3
       have PW3 := Lib.hid pw3
       have J3 := Lib.hid (s3.jok (by omega))
       clear u3 s3 pw3)
    | (go_at_call 22; refine (U3.out.power J3.out.2.1 (by rw [PW3.out]; omega) none 0 0 [] (fun S _ _ => HasNo.nil _ _ _) (Nat.le_refl _) (by omega)).mono ?_; rintro e w4 ⟨rfl, u4, y4⟩
       have BEL4 := Lib.hid u4.up.bel
       have hok4 : (⟨p.m.powerM 64 [], p.e⟩ : Pt).m.Ok 64 := J3.out.2.1.power [] (by rw [PW3.out]; omega)
       have hcn := p.m.powerM_cnt 64 []
       have hwr := J3.out.2.2.2.1
       have hhm := S3.out.homes
       have CBD := Lib.hid (tbegin_dead u4 hok4 (by show (p.m.powerM 64 []).wrote ≤ _; omega) (by rw [hhm.2.1, hhm.2.2.2.1]; exact hhm.2.2.2.2.2.2.2.2.1) (by
         unfold chkE
         rw [if_pos]
         · decide
         · refine .inr ?_
           show (p.m.powerM 64 []).powers ≠ j.lives
           rw [hcn.2, hhm.2.2.2.2.2.2.2.2.2.2.2]
           omega))
       clear u4 y4 hok4 hcn hwr hhm)
    | (go_at_call 31; refine CBD.out.mono ?_; rintro e w5 ⟨rfl, u5, y5⟩
       have HB5 := Lib.hid u5.up.bel
       have HZ5 : Hid (TZ w5 gz) := Lib.hid ((u5.up.bel.block _ hgt1).trans HZ0.out)
       have TN5 : Hid (TN w5 (.pointer (some ⟨gz, 0, none⟩))) := Lib.hid (.inr ⟨gz, rfl, HZ5.out⟩)
       clear u5 y5))
  have CAZ := Lib.hid (tabort_row _ HZ5.out rfl)
  go_wp2_with (first
    | (go_at_call 29; refine (CB.out _).mono ?_; rintro e w7 ⟨rfl, b7⟩
       have TN7 := Lib.hid (TN6.out.below b7)
       have B7 := Lib.hid b7
       clear b7)
    | (go_at_call_of 37 (Value.pointer none); refine (CAN.out _).mono ?_; rintro e w6 ⟨rfl, rfl⟩)
    | (go_at_call 37; refine CAZ.out.mono ?_; rintro e w6 ⟨rfl, z6, y6⟩
       have TN6 : Hid (TN w6 (.pointer (some ⟨gz, 0, none⟩))) := Lib.hid (.inr ⟨gz, rfl, z6⟩)
       have Y6 := Lib.hid y6
       clear z6 y6)
    | (go_at_call_of 36 (Value.pointer none); refine (tread_no (TNn.out _) 0).mono ?_; rintro e w6 ⟨rfl, rfl⟩)
    | (go_at_call 36; refine (tread_no TN5.out 0).mono ?_; rintro e w6 ⟨rfl, rfl⟩)
    | (go_at_call 33; refine (twrite_no (TNn.out _) 0 _).mono ?_; rintro e w8 ⟨rfl, rfl⟩)
    | (go_at_call_of 34 (Value.pointer none); refine (tcommit_no (TNn.out _)).mono ?_; rintro e w8 ⟨rfl, rfl⟩)
    | (go_at_call 34; refine (tcommit_no TN7.out).mono ?_; rintro e w8 ⟨rfl, rfl⟩)
    | (go_at_call_of 35 (Value.pointer none); refine (ttouch_no (TNn.out _)).mono ?_; rintro e w8 ⟨rfl, rfl⟩)
    | (go_at_call 35; refine (ttouch_no TN7.out).mono ?_; rintro e w8 ⟨rfl, rfl⟩)
    | (go_at_call_of 32 (Value.pointer none); refine (thomes_no (TNn.out _)).mono ?_; rintro e w8 ⟨rfl, rfl⟩)
    | (go_at_call 32; refine (thomes_no TN7.out).mono ?_; rintro e w8 ⟨rfl, rfl⟩))
  go_ret
  refine ⟨rfl, ?_⟩
  have hz1 := BZ.out.size
  have hz5 := HB5.out.size
  have hz6 := Y6.out.size
  have hgz := HGZ.out
  exact ((BZ.out.trans (HB5.out.mono hz1)).trans (Y6.out.to_below (fun k hk => by omega) (by omega))).trans (B7.out.mono (by omega))
end
end Go.Proofs.Ythfmkdeglceppaa
