/-
  Own work. The statements of layer 6: begun.
-/
import Derived.Test.YtadagbkfemcgfaaQw
namespace Go.Proofs.Ytadagbkfemcgfaa
open Go.RowKit Go.Maps
set_option linter.unusedVariables false
set_option linter.unusedSimpArgs false

theorem ckP_powers (p : Pt) (n : Nat) (j : JM) : (ckP p n j).m.powers = p.m.powers := by
  unfold ckP
  split
  · rfl
  · split
    · rfl
    · exact cpP_powers ..
theorem cmt_powers (p : Pt) (n : Nat) (j : JM) (l : List Pu) : (cmt p n j l).p.m.powers = p.m.powers := by
  unfold cmt
  repeat' split
  all_goals first | rfl | exact ckP_powers .. | (rw [stP_powers]; exact ckP_powers ..) | exact stP_powers ..
theorem fmtP_powers (m : RM) (n r : Nat) : (fmtP m n r).m.powers = m.powers := by
  have h : ∀ k, (fmtK ⟨m, 0⟩ n k).m.powers = m.powers := by
    intro k
    induction k with
    | zero => rfl
    | succ k ih =>
      rw [fmtK_succ, Pt.wr_powers]
      split
      · rw [Pt.fl_powers, ih]
      · exact ih
  unfold fmtP Pt.anchor
  rw [Pt.fl_powers, Pt.wr_powers, Pt.fl_powers, h]
theorem SJ.may {p : Pt} {n V T u r : Nat} {j : JM} {H : Nat → List UInt8} (a : SJ p n V j T u r H) {l : List Pu} (h1 : ∀ x ∈ l, 0 ≤ x.i ∧ x.i < (n - 2 - r : Nat) ∧ x.data.length = 512) (h2 : (l.map Pu.i).Nodup) (h3 : l.length ≤ 40) (h4 : l.length < r) : lstE n j l = 0 := by
  obtain ⟨b1, b2, _⟩ := a.homes
  have e : lsE (j.homes n) [] l = 0 := by
    rw [b1]
    exact lsE_back _ l [] (fun x hx => ⟨(h1 x hx).1, (h1 x hx).2.1, (h1 x hx).2.2, by simp⟩) h2
  unfold lstE
  rw [e, if_neg (fun h => h rfl), b2, if_neg (by omega)]
/-- Everything that open_up tells. -/
def OpenUp (Z : DK) (w0 : World) (gd n : Nat) (p : Pt) (V T r : Nat) (H : Nat → List UInt8) (en : Ending) (W' : World) : Prop :=
  ∃ g gp p' j', en = .returned (.tuple #[.pointer (some ⟨g, 0, none⟩), .int .i64 0]) ∧ UpJ Z w0 W' g gd gp n p' j' ∧ SJ p' n V j' T 0 r H ∧ p'.m.powers = p.m.powers
theorem HasPu.one {w : World} {A : Option Addr} {n c : Nat} {D : List UInt8} (x : Int) (h : HasB w w.heap.size A n D) (hc : n ≤ c) (hx : -9223372036854775808 ≤ x ∧ x ≤ 9223372036854775807) : HasPu (w.alloc (.cells #[.int .i64 x, .slice A n c] 60)) (some ⟨w.heap.size, 0, none⟩) 1 [⟨x, D⟩] := by
  have hb : Below w.heap.size w (w.alloc (.cells #[.int .i64 x, .slice A n c] 60)) := (Below.refl _ _).alloc (Nat.le_refl _) _
  have h0 := heap_alloc_new w (.cells #[.int .i64 x, .slice A n c] 60)
  refine ⟨rfl, fun y hy => ?_, fun _ => ⟨w.heap.size, 0, rfl, by simp, fun k y hy => ?_⟩⟩
  · rw [List.mem_singleton] at hy
    subst hy
    exact hx
  · cases k with
    | zero =>
      simp only [List.getElem?_cons_zero, Option.some.injEq] at hy
      subst hy
      exact ⟨A, n, c, cell_of_row _ _ 0 _ _ (0, 0) h0, cell_of_row _ _ 1 _ _ (0, 0) h0, h.on hb, hc⟩
    | succ k => simp at hy
set_option maxRecDepth 100000 in
set_option maxHeartbeats 2000000 in
theorem begun6_any (Z : DK) (w : World) : Calls Try.prog 19 #[] w (RetTrue w) := by
  obtain ⟨q0, c0⟩ := QP.new 64 (by omega) (by omega)
  have ds1 := DS.fmt q0 (by omega) 16 (by omega) (by omega) (by omega)
  have pw1 : (fmtP (newM 64) 64 16).m.powers = 0 := fmtP_powers _ _ _
  have he1 : (fmtP (newM 64) 64 16).e = 0 := by obtain ⟨j, u, a⟩ := ds1; exact (a.jok (by omega)).2.2.1
  have CN : Hid (∀ W, Below w.heap.size w W → Calls Try.prog 20 #[.int .i64 64] W fun e W' => ∃ g, e = .returned (.pointer (some ⟨g, 0, none⟩)) ∧ OnD Z w W' g 64 (newM 64)) := Lib.hid (fun W hb => new_up Z w W hb 64 (by omega) (by omega))
  have CF : Hid (∀ gd W, OnD Z w W gd 64 (newM 64) → Calls Try.prog 21 #[.pointer (some ⟨gd, 0, none⟩), .int .i64 16] W fun en W' => en = .returned (.int .i64 0) ∧ OnD Z w W' gd 64 (fmtP (newM 64) 64 16).m) := Lib.hid (fun gd W a => by
    have := format_up a 16 q0.ok (by show 0 ≤ _; omega) (by omega) (by omega) (by omega)
    rwa [he1] at this)
  have CO1 : Hid (∀ gd W, OnD Z w W gd 64 (fmtP (newM 64) 64 16).m → Calls Try.prog 22 #[.pointer (some ⟨gd, 0, none⟩)] W (OpenUp Z w gd 64 (fmtP (newM 64) 64 16) 130 1 16 (fun _ => zsec))) := Lib.hid (fun gd W a => (open_up a ds1 (by omega)).mono (by
    rintro en W' ⟨g, gp, p', j', h1, h2, h3, h4, _⟩
    exact ⟨g, gp, p', j', h1, h2, h3, h4⟩))
  have PW1 := Lib.hid pw1
  obtain ⟨l0, hl0⟩ : ∃ l0 : List Pu, [⟨5, fullL [9]⟩] = l0 := ⟨_, rfl⟩
  have h0 : (fullL [9])[0]? = some 9 := by unfold fullL; rfl
  obtain ⟨D9, hD9⟩ : ∃ D9, fullL [9] = D9 := ⟨_, rfl⟩
  have hD9l : D9.length = 512 := by rw [← hD9]; exact fullL_len _
  rw [hD9] at hl0 h0
  have CC : Hid (∀ g gd gp p j W A cl, UpJ Z w W g gd gp 64 p j → SJ p 64 130 j 1 0 16 (fun _ => zsec) → HasPu W A 1 l0 → Calls Try.prog 28 #[.pointer (some ⟨g, 0, none⟩), .slice A 1 cl] W fun en W' => en = .returned (.int .i64 0) ∧ OnD Z w W' gd 64 (cmt p 64 j l0).p.m) := Lib.hid (fun g gd gp p j W A cl a b hp => by
    have hv : lstE 64 j l0 = 0 := b.may (by rw [← hl0]; intro x hx; rw [List.mem_singleton] at hx; subst hx; exact ⟨by show (0 : Int) ≤ 5; omega, by show (5 : Int) < 46; omega, hD9l⟩) (by rw [← hl0]; simp) (by rw [← hl0]; show 1 ≤ 40; omega) (by rw [← hl0]; show 1 < 16; omega)
    obtain ⟨c1, c2⟩ := b.commit (by omega) hv (by rw [← hl0]; simp)
    have := commit_up a b (by omega) A 1 cl l0 hp (by omega) (by rw [← hl0]; intro x hx; rw [List.mem_singleton] at hx; subst hx; rw [hD9l]; omega)
    rw [c1] at this
    refine this.mono ?_
    rintro en W' ⟨h1, h2⟩
    exact ⟨h1, h2.disk⟩)
  have DS3 : Hid (∀ p j, SJ p 64 130 j 1 0 16 (fun _ => zsec) → DS (cmt p 64 j l0).p 64 237 2 16 (upd (fun _ => zsec) 5 D9)) := Lib.hid (fun p j b => by
    have hv : lstE 64 j l0 = 0 := b.may (by rw [← hl0]; intro x hx; rw [List.mem_singleton] at hx; subst hx; exact ⟨by show (0 : Int) ≤ 5; omega, by show (5 : Int) < 46; omega, hD9l⟩) (by rw [← hl0]; simp) (by rw [← hl0]; show 1 ≤ 40; omega) (by rw [← hl0]; show 1 < 16; omega)
    obtain ⟨c1, c2⟩ := b.commit (by omega) hv (by rw [← hl0]; simp)
    have := c2.ds
    rw [← hl0] at this ⊢
    exact this)
  have CP : Hid (∀ gd (p : Pt) W, OnD Z w W gd 64 p.m → DS p 64 237 2 16 (upd (fun _ => zsec) 5 D9) → p.m.powers = 0 → Calls Try.prog 29 #[.pointer (some ⟨gd, 0, none⟩), .slice none 0 0] W fun en W' => en = .returned (.tuple #[]) ∧ OnD Z w W' gd 64 (p.m.powerM 64 [])) := Lib.hid (fun gd p W a b h => by
    obtain ⟨j, u, b⟩ := b
    exact power_up a (b.jok (by omega)).2.1 (by omega))
  have CO2 : Hid (∀ gd (p : Pt) W, OnD Z w W gd 64 (p.m.powerM 64 []) → DS p 64 237 2 16 (upd (fun _ => zsec) 5 D9) → p.m.powers = 0 → Calls Try.prog 22 #[.pointer (some ⟨gd, 0, none⟩)] W (OpenUp Z w gd 64 ⟨p.m.powerM 64 [], 0⟩ 302 2 16 (upd (fun _ => zsec) 5 D9))) := Lib.hid (fun gd p W a b h => (open_up (p := ⟨p.m.powerM 64 [], 0⟩) a (b.power [] (by omega)).1 (by omega)).mono (by
    rintro en W' ⟨g, gp, p', j', h1, h2, h3, h4, _⟩
    exact ⟨g, gp, p', j', h1, h2, h3, h4⟩))
  have CR : Hid (∀ g gd gp p j W, UpJ Z w W g gd gp 64 p j → SJ p 64 302 j 2 0 16 (upd (fun _ => zsec) 5 D9) → Calls Try.prog 40 #[.pointer (some ⟨g, 0, none⟩), .int .i64 5] W fun en W' => ∃ A q c, en = .returned (.tuple #[.slice A q c, .int .i64 0]) ∧ OwnX W' W.heap.size (.slice A q c) D9 ∧ UpJ Z w W' g gd gp 64 p j) := Lib.hid (fun g gd gp p j W a b => read_up a b (by omega) 5 (by omega))
  have CH : Hid (∀ g gd gp p j W, UpJ Z w W g gd gp 64 p j → SJ p 64 302 j 2 0 16 (upd (fun _ => zsec) 5 D9) → Calls Try.prog 41 #[.pointer (some ⟨g, 0, none⟩)] W (RetV2 W (.int .i64 46))) := Lib.hid (fun g gd gp p j W a b => homes_up a b (by omega))
  have CT : Hid (∀ g gd gp p j W, UpJ Z w W g gd gp 64 p j → SJ p 64 302 j 2 0 16 (upd (fun _ => zsec) 5 D9) → Calls Try.prog 42 #[.pointer (some ⟨g, 0, none⟩)] W (RetW W (.int .u64 1))) := Lib.hid (fun g gd gp p j W a b => turn_up a b)
  have FC : Hid (∀ W A n c, HasB W W.heap.size A n [9] → Calls Try.prog 39 #[.slice A n c] W (RetB W D9)) := Lib.hid (fun W A n c h => by have := full_any A n c [9] W W.heap.size h (Nat.le_refl _); rwa [hD9] at this)
  have H0 := Lib.hid h0
  have HL0 := Lib.hid hl0
  have HD := Lib.hid hD9l
  clear q0 c0 ds1 pw1 he1 hl0 h0 hD9 hD9l
  go_enter Try.func19, Try.ntmps19
  go_wp2_with (first
    | (go_at_call 20; refine (CN.out _ (Below.refl _ _)).mono ?_; rintro e w1 ⟨gd, rfl, a1⟩
       have A1 := Lib.hid a1
       clear a1)
    | (go_at_call 21; refine (CF.out _ _ A1.out).mono ?_; rintro e w2 ⟨rfl, a2⟩
       have A2 := Lib.hid a2
       clear a2)
    | (go_at_call 22; refine (CO2.out _ _ _ A5.out DD.out PP.out).mono ?_; rintro e w6 ⟨g2, gp2, p2, j2, rfl, a6, b6, c6⟩
       have A6 := Lib.hid a6
       have B6 := Lib.hid b6
       clear a6 b6 c6)
    | (go_at_call 22; refine (CO1.out _ _ A2.out).mono ?_; rintro e w3 ⟨g1, gp1, p1, j1, rfl, a3, b3, c3⟩
       have A3 := Lib.hid a3
       have B3 := Lib.hid b3
       have PP : Hid ((cmt p1 64 j1 l0).p.m.powers = 0) := Lib.hid (by rw [cmt_powers, c3]; exact PW1.out)
       have DD := Lib.hid (DS3.out p1 j1 b3)
       have HR := Lib.hid (HasB.row w3 [9] 5)
       clear a3 b3 c3)
    | (go_at_call 39; refine (FC.out _ _ _ _ HR.out).mono ?_; rintro e w4 ⟨A4, n4, c4, rfl, own4, b4⟩
       have A4' := Lib.hid ((A3.out.below ((Below.refl _ _).alloc (Nat.le_refl _) _)).below b4)
       have N4 := Lib.hid own4
       have hn4 := own4.len
       rw [HD.out] at hn4
       subst hn4
       have HP4 := Lib.hid (HasPu.one 5 own4.x.has own4.x.caps.1 (by omega))
       rw [HL0.out] at HP4
       clear own4 b4)
    | (go_at_call 28; refine (CC.out _ _ _ _ _ _ _ _ (A4'.out.below ((Below.refl _ _).alloc (Nat.le_refl _) _)) B3.out HP4.out).mono ?_; rintro e w5 ⟨rfl, a5⟩
       have A45 := Lib.hid a5
       clear a5)
    | (go_at_call 29; refine (CP.out _ _ _ A45.out DD.out PP.out).mono ?_; rintro e w55 ⟨rfl, a5⟩
       have A5 := Lib.hid a5
       clear a5)
    | (go_at_call 40; refine (CR.out _ _ _ _ _ _ A6.out B6.out).mono ?_; rintro e w7 ⟨A7, n7, c7, rfl, own7, a7⟩
       have A7' := Lib.hid a7
       have hn7 := own7.len
       rw [HD.out] at hn7
       subst hn7
       obtain ⟨g7, rfl, _, hg7, hc7⟩ := own7.head (by omega)
       have k7 : w7.cell? ⟨g7, 0, none⟩ = some (.int .u8 9) := hc7 0 9 H0.out
       have K7 := Lib.hid k7
       have G7 := Lib.hid hg7
       clear own7 a7 hc7 hg7)
    | (go_at_call 41; refine (CH.out _ _ _ _ _ _ A7'.out B6.out).mono ?_; rintro e w8 ⟨rfl, b8⟩
       have A8 := Lib.hid (A7'.out.below b8)
       have k8 : w8.cell? ⟨g7, 0, none⟩ = some (.int .u8 9) := (b8.cell G7.out).trans K7.out
       clear b8)
    | (go_at_call 42; refine (CT.out _ _ _ _ _ _ A8.out B6.out).mono ?_; rintro e w9 ⟨rfl, rfl⟩))
  go_ret
  exact ⟨rfl, A8.out.bel⟩
end Go.Proofs.Ytadagbkfemcgfaa
