/-
  Own work. The statements of layer 7: TxnOwn.
-/
import Derived.Test.YthfmkdeglceppaaTr
import Derived.Test.YthfmkdeglceppaaPl
namespace Go.Proofs.Ythfmkdeglceppaa
open Go.RowKit Go.Maps
set_option linter.unusedVariables false
set_option linter.unusedSimpArgs false

theorem guard_eql_str (s t : ByteArray) (x y : Operand) (w : World) : (eqGuard .eql 9 x y (.string s) (.string t)).run Try.prog w = .ok () w := by
  unfold eqGuard
  simp [run_underlying Try.underlying9 w, go_sem, Result.andThen]
theorem yieldsIf_binO {P : Program} {ops : Array Oper} {o : Oper} {a : Act} {S : World → Prop} (hw : Region.wanted o (yielded ops a.tmps) = true) (b : BinOp) (t u : TypeId) (x y : Operand) (ho : o.op = .binOp b t x y u) (X Y V : Value) (hx : a.eval x = X) (hy : a.eval y = Y)
    (hg : ∀ w, (eqGuard b t x y X Y).run P w = .ok () w) (hb : ∀ w, (binOp b t X Y).run P w = .ok V w) : YieldsIf P ops S o V a := by
  refine Or.inl ⟨hw, fun w hS => ?_⟩
  unfold execOp
  simp only [ho, hx, hy, Sem.run_bind, Sem.run_pure, Result.andThen_ok, hg, hb]
theorem eql_strB (a b : List UInt8) (w : World) : (binOp .eql 9 (.string (strB a)) (.string (strB b))).run Try.prog w = .ok (.bool (decide (a = b))) w := eql_str a b w
theorem conv_str {w : World} {A : Option Addr} {q c : Nat} {l : List UInt8} (h : HasB w w.heap.size A q l) : (convert 39 9 (.slice A q c)).run Try.prog w = .ok (.string (strB l)) w :=
  run_conv Try.underlying39 Try.underlying5 Try.underlying9 _ _ _ c _ h
/-- Apart blocks keep bytes. -/
theorem HasB.farB {w w' : World} {A : Option Addr} {q : Nat} {d : List UInt8} {B : Nat → Prop} {gt : Nat} (h : HasB w w.heap.size A q d) (ho : Only (fun k => ¬ B k ∨ k = gt) w w') (hB : ∀ k, InB A k → B k ∧ k ≠ gt) : HasB w' w'.heap.size A q d :=
  h.far ho (fun a ha hh => hh.elim (fun h' => h' (hB _ ⟨a, ha, rfl⟩).1) (fun h' => (hB _ ⟨a, ha, rfl⟩).2 h'))
theorem fullL_nil : fullL [] = zsec := rfl
set_option maxRecDepth 100000 in
set_option maxHeartbeats 8000000 in
theorem txnown_law (Z : DK) (a0 : Int) (b : Option Addr) (bn bc : Nat) (d : List UInt8) (cm : Bool) (w : World) (h0 : -9223372036854775808 ≤ a0 ∧ a0 ≤ 9223372036854775807) (hd : HasB w w.heap.size b bn d) :
    Calls Try.prog 9 #[.int .i64 a0, .slice b bn bc, .bool cm] w (RetTrue w) := by
  have CB := Lib.hid (fun W => begun7_any Z W)
  have HD := Lib.hid hd
  by_cases hl : 512 < bn
  · have hl1 : (512 : Int) < (bn : Int) := by omega
    clear hd h0
    go_enter Try.func9, Try.ntmps9
    go_wp2_with (first
      | (go_at_call 29; refine (CB.out _).mono ?_; rintro e w1 ⟨rfl, b1⟩
         have B1 := Lib.hid b1
         clear b1))
    go_ret
    exact ⟨rfl, B1.out⟩
  have hl1 : ¬ (512 : Int) < (bn : Int) := by omega
  have CP0 := Lib.hid (fun W => place_any a0 46 W h0 (by omega) (by omega))
  have CM : Hid (∀ W, Below w.heap.size w W → Calls Try.prog 30 #[.int .i64 64, .int .i64 16] W (MadeUp Z w 64 16)) := Lib.hid (fun W hb => made_any Z w W hb 64 16 (by omega) (by omega) (by omega) (by omega) (by omega))
  obtain ⟨D, hD⟩ : ∃ D, fullL d = D := ⟨_, rfl⟩
  have l1 : D.length = 512 := by rw [← hD]; exact fullL_len _
  have FC : Hid (∀ W, Below w.heap.size w W → Calls Try.prog 24 #[.slice b bn bc] W (RetB W D)) := Lib.hid (fun W hb => by have := full_any b bn bc d W W.heap.size (HD.out.on hb) (Nat.le_refl _); rwa [hD] at this)
  have FC0 : Hid (∀ W, Calls Try.prog 24 #[.slice none 0 0] W (RetB W zsec)) := Lib.hid (fun W => by have := full_any none 0 0 [] W W.heap.size (HasB.nil _ _ _) (Nat.le_refl _); rwa [fullL_nil] at this)
  have z1 : ((strB D).size ≠ 0) := by rw [strB_size]; omega
  obtain ⟨E0, hE0⟩ : ∃ E, List.replicate 46 emp = E := ⟨_, rfl⟩
  have N1 : Hid (∀ i, i < 46 → (frK (E0.set i (strB D)) 46).length = 1) := Lib.hid (fun i hi => by rw [← hE0]; exact one_cnt hi z1)
  have N0 : Hid ((frK E0 46).length < 40) := Lib.hid (by rw [← hE0, frK_rep]; omega)
  have ZE : Hid (∀ i, (E0.getD i emp).size = 0) := Lib.hid (fun i => by rw [← hE0]; exact rep_emp 46 i)
  have GE : Hid (∀ i, i < 46 → (E0.set i (strB D)).getD i emp = strB D) := Lib.hid (fun i hi => by rw [← hE0, getD_set _ _ _ _ (by rw [List.length_replicate]; exact hi), if_pos rfl])
  have L1 := Lib.hid l1
  have HE := Lib.hid hE0
  have Z1 := Lib.hid z1
  have LZ : Hid (lst (strB D) = D) := Lib.hid (lst_strB D)
  obtain ⟨zs, hzs⟩ : ∃ zs, zsec = zs := ⟨_, rfl⟩
  have lz : zs.length = 512 := by rw [← hzs]; exact zsec_len
  have LZS := Lib.hid lz
  have HZS := Lib.hid hzs
  rw [hzs] at FC0
  have EQX := Lib.hid (fun w => eql_strB D D w)
  clear hd h0 hl hD l1 hE0 z1 hzs lz
  go_enter Try.func9, Try.ntmps9
  go_upto_region 9 with (first
    | (go_at_call 29; refine (CB.out _).mono ?_; rintro e w1 ⟨rfl, b1⟩
       have B1 := Lib.hid b1
       clear b1)
    | (go_at_call 30; refine (CM.out _ B1.out).mono ?_; rintro e w2 ⟨gd, g, gp, p, j, rfl, u2, s2, _⟩
       have s2' : SJ p 64 130 j 1 0 16 (fun _ => zs) := by rw [← HZS.out]; exact s2
       have U2 := Lib.hid u2
       have S2 := Lib.hid s2'
       clear u2 s2 s2')
    | (go_at_call 12; refine (CP0.out _).mono ?_; rintro e w3' ⟨⟨t, ht, rfl⟩, rfl⟩)
    | (go_at_call 31; refine (begin_up U3.out S2.out (by omega)).mono ?_; rintro e w4 ⟨gu, gm2, rfl, t4, u4, hg4, hgm4, y4⟩
       have t4' : TO w4 gu g 0 46 0 (List.replicate 46 emp) (fun k => k = gm2) := t4
       rw [HE.out] at t4'
       have hgu4 : gu < w4.heap.size := t4.lt
       have hgm24 : gm2 < w4.heap.size := t4.ml gm2 rfl
       have TU4 := Lib.hid t4'
       have U4 := Lib.hid u4
       have T4 := Lib.hid (T3.out.only y4 (fun h => h (.inr (.inl rfl))) (fun k hk h => h (.inr (.inr hk))))
       clear t4 t4' u4 y4)
    | (go_at_call 31; refine (begin_up U2.out S2.out (by omega)).mono ?_; rintro e w3 ⟨gt, gm, rfl, t3, u3, hg3, hgm3, y3⟩
       have t3' : TO w3 gt g 0 46 0 (List.replicate 46 emp) (fun k => k = gm) := t3
       rw [HE.out] at t3'
       have hgt3 : gt < w3.heap.size := t3.lt
       have hgml3 : gm < w3.heap.size := t3.ml gm rfl
       have T3 := Lib.hid t3'
       have U3 := Lib.hid u3
       clear t3 t3' u3 y3))
  go_upto_region 14 with (first
    | (go_at_call 24; refine (FC.out _ U4.out.up.bel).mono ?_; rintro e w5 ⟨A5, n5, c5, rfl, own5, b5⟩
       have hn5 := own5.len
       rw [L1.out] at hn5
       subst hn5
       have O5 := Lib.hid own5
       have T5 := Lib.hid (T4.out.below b5)
       have TU5 := Lib.hid (TU4.out.below b5)
       have U5 := Lib.hid (U4.out.below b5)
       have hz5 : w4.heap.size ≤ w5.heap.size := b5.size
       clear own5 b5)
    | (go_at_call 33; refine (write_up U5.out S2.out (by omega) T5.out (.inl (.inr (.inl rfl))) (fun k hk => .inl (.inr (.inr hk))) t (by omega) _ _ D O5.out.x.has L1.out O5.out.x.caps.1 (.inr N0.out) (by omega)).mono ?_; rintro e w6 ⟨rfl, M6, t6, u6, hM6, y6⟩
       have T6 := Lib.hid t6
       have U6 : Hid (UpB Z w w6 g gd gp 64 p j (fun k => k = gt ∨ k = gu ∨ k = gm2 ∨ M6 k)) := Lib.hid (u6.less (fun k hk => by
         rcases hk with h | h | h | h
         · exact .inl (.inl (.inr (.inl h)))
         · exact .inl (.inr (.inl h))
         · exact .inl (.inr (.inr h))
         · exact .inr h))
       have HM6 := Lib.hid hM6
       have TU6 := Lib.hid (TU5.out.only y6 (by omega) (fun k hk hh => by omega))
       have hz6 : w5.heap.size ≤ w6.heap.size := y6.size
       clear t6 u6 hM6 y6)
    | (go_at_call_of 36 (Value.pointer (some ⟨gu, 0, none⟩)); refine (tread_up U7.out S2.out (by omega) TU7.out t (by omega) (ZE.out t)).mono ?_; rintro e w8 ⟨A8, q8, c8, rfl, x8, u8, y8⟩
       have T8 := Lib.hid (T7.out.only y8 (fun h => h (.inl rfl)) (fun k hk h => h (.inr (.inr (.inr (.inl hk))))))
       have U8 := Lib.hid u8
       have X8 := Lib.hid (X7.out.far y8 (fun a ha hh => hh (.inr (.inr (.inr (.inr ⟨a, ha, rfl⟩))))))
       have hq8 := x8.len
       have Y8 : Hid (HasB w8 w8.heap.size A8 q8 zs) := Lib.hid x8.has
       have NY : Hid (∀ k, InB A8 k → k ≠ gt) := Lib.hid (fun k ⟨a, ha, hk⟩ => by
         obtain ⟨g8, e8, e1, e2, _⟩ := x8.head (by rw [hq8, LZS.out]; omega)
         rw [ha] at e8
         injection e8 with e8
         subst e8
         dsimp only at hk
         omega)
       have hz8 : w7.heap.size ≤ w8.heap.size := y8.size
       clear x8 u8 y8 hq8)
    | (go_at_call 36; refine (tread_own T6.out t (by omega) (by rw [GE.out t (by omega)]; exact Z1.out)).mono ?_; rintro e w7 ⟨A7, q7, c7, rfl, x7, b7⟩
       rw [GE.out t (by omega), LZ.out] at x7
       have hq7 := x7.len
       obtain ⟨g7, e7, e71, e72, _⟩ := x7.head (by rw [hq7, L1.out]; omega)
       have T7 := Lib.hid (T6.out.below b7)
       have TU7 := Lib.hid (TU6.out.below b7)
       have U7 : Hid (UpB Z w w7 g gd gp 64 p j (fun k => k = gt ∨ k = gu ∨ k = gm2 ∨ M6 k ∨ InB A7 k)) := Lib.hid (U6.out.own (Only.of_below b7 (Nat.le_refl _)) (fun k hk => by
         rcases hk with h | h | h | h | ⟨a, ha, hk⟩
         · exact .inl (.inl h)
         · exact .inl (.inr (.inl h))
         · exact .inl (.inr (.inr (.inl h)))
         · exact .inl (.inr (.inr (.inr h)))
         · rw [ha] at e7
           injection e7 with e7
           subst e7
           dsimp only at hk
           exact .inr ⟨by omega, by omega⟩))
       have NX : Hid (∀ k, InB A7 k → k ≠ gt) := Lib.hid (fun k ⟨a, ha, hk⟩ => by
         rw [ha] at e7
         injection e7 with e7
         subst e7
         dsimp only at hk
         omega)
       have X7 : Hid (HasB w7 w7.heap.size A7 q7 D) := Lib.hid x7.has
       have hz7 : w6.heap.size ≤ w7.heap.size := b7.size
       clear x7 b7 hq7 e7 e71 e72)
    | (go_at_call 28; refine (U8.out.readK S2.out (by omega) t (by omega)).mono ?_; rintro e w9 ⟨A9, q9, c9, rfl, x9, u9, y9⟩
       have T9 := Lib.hid (T8.out.only y9 (fun h => h (.inl (.inl rfl))) (fun k hk h => h (.inl (.inr (.inr (.inr (.inl hk)))))))
       have U9 := Lib.hid u9
       have X9 := Lib.hid (X8.out.far y9 (fun a ha hh => hh (.inl (.inr (.inr (.inr (.inr ⟨a, ha, rfl⟩)))))))
       have Y9 := Lib.hid (Y8.out.far y9 (fun a ha hh => hh (.inr ⟨a, ha, rfl⟩)))
       have hq9 := x9.len
       have Z9 : Hid (HasB w9 w9.heap.size A9 q9 zs) := Lib.hid x9.has
       have NZ : Hid (∀ k, InB A9 k → k ≠ gt) := Lib.hid (fun k ⟨a, ha, hk⟩ => by
         obtain ⟨g9, e9, e1, e2, _⟩ := x9.head (by rw [hq9, LZS.out]; omega)
         rw [ha] at e9
         injection e9 with e9
         subst e9
         dsimp only at hk
         omega)
       clear x9 u9 y9 hq9))
  have MB : Hid (∀ k, (InB A7 k ∨ InB A8 k ∨ InB A9 k) → (((k = gt ∨ k = gu ∨ k = gm2 ∨ M6 k ∨ InB A7 k) ∨ InB A8 k) ∨ InB A9 k) ∧ k ≠ gt) := Lib.hid (fun k hk => by
    rcases hk with h | h | h
    · exact ⟨.inl (.inl (.inr (.inr (.inr (.inr h))))), NX.out k h⟩
    · exact ⟨.inl (.inr h), NY.out k h⟩
    · exact ⟨.inr h, NZ.out k h⟩)
  obtain ⟨BB, hBB⟩ : ∃ BB : Nat → Prop, (fun k => ((k = gt ∨ k = gu ∨ k = gm2 ∨ M6 k ∨ InB A7 k) ∨ InB A8 k) ∨ InB A9 k) = BB := ⟨_, rfl⟩
  have BG : Hid (BB gt) := Lib.hid (by rw [← hBB]; exact .inl (.inl (.inl rfl)))
  have MB' : Hid (∀ k, (InB A7 k ∨ InB A8 k ∨ InB A9 k) → BB k ∧ k ≠ gt) := Lib.hid (fun k hk => by rw [← hBB]; exact MB.out k hk)
  rw [hBB] at U9
  clear MB NX NY NZ hBB U2 U3 U4 U5 U6 U7 U8 T3 T4 T5 T6 T7 T8 TU4 TU5 TU6 TU7 X7 X8 Y8
  cases cm
  · skip
    have CC := Lib.hid (by obtain ⟨gm', _, _, _, _, hb⟩ := T9.out.cells; exact tabort_row _ hb rfl)
    go_upto_region 20 with (first
      | (go_at_call 37; refine CC.out.mono ?_; rintro e w10 ⟨rfl, z10, y10'⟩
         have y10 : Only (fun k => ¬ BB k ∨ k = gt) w9 w10 := y10'.mono (fun k _ hk => .inr hk)
         have u10 : UpB Z w w10 g gd gp 64 p j BB := U9.out.own (y10'.mono (fun k _ hk => .inl (hk ▸ BG.out))) (fun k hk => .inl hk)
         have rd := u10.readK S2.out (by omega) t (by omega)
         clear y10'
         have TN10 : Hid (TN w10 (.pointer (some ⟨gt, 0, none⟩))) := Lib.hid (.inr ⟨gt, rfl, z10⟩)
         have HZ10 := Lib.hid z10
         have RD := Lib.hid rd
         have X10 := Lib.hid (X9.out.farB y10 (fun k hk => MB'.out k (.inl hk)))
         have Y10 := Lib.hid (Y9.out.farB y10 (fun k hk => MB'.out k (.inr (.inl hk))))
         have Z10 := Lib.hid (Z9.out.farB y10 (fun k hk => MB'.out k (.inr (.inr hk))))
         clear z10 u10 y10 rd)
      | (go_at_call 28; refine RD.out.mono ?_; rintro e w11 ⟨A11, q11, c11, rfl, x11, u11, y11⟩
         have W11 : Hid (HasB w11 w11.heap.size A11 q11 zs) := Lib.hid x11.has
         have TN11 : Hid (TN w11 (.pointer (some ⟨gt, 0, none⟩))) := Lib.hid (.inr ⟨gt, rfl, HZ10.out.only y11 (fun h => h BG.out)⟩)
         have X11 := Lib.hid (X10.out.far y11 (fun a ha hh => hh (MB'.out _ (.inl ⟨a, ha, rfl⟩)).1))
         have Y11 := Lib.hid (Y10.out.far y11 (fun a ha hh => hh (MB'.out _ (.inr (.inl ⟨a, ha, rfl⟩))).1))
         have Z11 := Lib.hid (Z10.out.far y11 (fun a ha hh => hh (MB'.out _ (.inr (.inr ⟨a, ha, rfl⟩))).1))
         have BL11 := Lib.hid u11.up.bel
         clear x11 u11 y11)
      | (go_at_call 36; refine (tread_no TN11.out (t : Int)).mono ?_; rintro e w11' ⟨rfl, rfl⟩)
      | (go_at_call 24; refine (FC0.out _).mono ?_; rintro e w12 ⟨A12, q12, c12, rfl, own12, b12⟩
         have CV12 := Lib.hid (conv_str (c := c12) own12.x.has)
         have W12 := Lib.hid (W11.out.on b12)
         have X12 := Lib.hid (X11.out.on b12)
         have Y12 := Lib.hid (Y11.out.on b12)
         have Z12 := Lib.hid (Z11.out.on b12)
         have BL12 := Lib.hid (BL11.out.trans (b12.mono BL11.out.size))
         clear own12 b12)
      | (refine wpList_convG (by rfl) 39 9 (.tmp 94) rfl _ _ rfl CV12.out ?_))
    have XC : Hid (∀ W, Below w12.heap.size w12 W → (convert 39 9 (.slice A7 q7 c7)).run Try.prog W = .ok (.string (strB D)) W) := Lib.hid (fun W hW => conv_str (X12.out.on hW))
    have YC : Hid (∀ W, Below w12.heap.size w12 W → (convert 39 9 (.slice A8 q8 c8)).run Try.prog W = .ok (.string (strB zs)) W) := Lib.hid (fun W hW => conv_str (Y12.out.on hW))
    have ZC : Hid (∀ W, Below w12.heap.size w12 W → (convert 39 9 (.slice A9 q9 c9)).run Try.prog W = .ok (.string (strB zs)) W) := Lib.hid (fun W hW => conv_str (Z12.out.on hW))
    have WC : Hid (∀ W, Below w12.heap.size w12 W → (convert 39 9 (.slice A11 q11 c11)).run Try.prog W = .ok (.string (strB zs)) W) := Lib.hid (fun W hW => conv_str (W12.out.on hW))
    have FCC := Lib.hid (FC.out w12 BL12.out)
    have EQD : Hid (∀ w, (binOp .eql 9 (.string (strB D)) (.string (strB D))).run Try.prog w = .ok (.bool true) w) := Lib.hid (fun w => by have := eql_strB D D w; rwa [decide_eq_true rfl] at this)
    have EQZ : Hid (∀ w, (binOp .eql 9 (.string (strB zs)) (.string (strB zs))).run Try.prog w = .ok (.bool true) w) := Lib.hid (fun w => by have := eql_strB zs zs w; rwa [decide_eq_true rfl] at this)
    obtain ⟨R, hR⟩ : ∃ R, decide (zs = D) = R := ⟨_, rfl⟩
    have EQM : Hid (∀ w, (binOp .eql 9 (.string (strB zs)) (.string (strB D))).run Try.prog w = .ok (.bool R) w) := Lib.hid (fun w => by have := eql_strB zs D w; rwa [hR] at this)
    have EQN : Hid (∀ w, (binOp .eql 9 (.string (strB D)) (.string (strB zs))).run Try.prog w = .ok (.bool R) w) := Lib.hid (fun w => by
      have h1 := eql_strB D zs w
      have h2 : decide (D = zs) = R := by rw [← hR]; exact decide_eq_decide.2 ⟨Eq.symm, Eq.symm⟩
      rwa [h2] at h1)
    clear hR
    have DRB : Hid (Below w.heap.size w w12.drew) := Lib.hid BL12.out.drew
    refine wp_region_held_drew (S := fun W => Below w12.heap.size w12 W) (by kernel_rfl) (Below.refl _ _).drew (fun hHeld => ?_)
    refine wpAnyH_take (i := 0) (v := ?v0a) (by simp only [List.getElem?_toArray, List.getElem?_cons_succ, List.getElem?_cons_zero]; rfl) (by kernel_rfl) (by kernel_rfl) (by kernel_rfl) (by exact fun _ _ _ h => h) (Or.inl ⟨by rfl, ?h0a⟩) (by assumption) ?_
    case h0a => (intro W hSw; (try dsimp only at hSw); go_simp; try with_reducible rfl)
    try simp only [Act.put, List.setIfInBounds_toArray, List.set_cons_zero, List.set_cons_succ]
    refine wpAnyH_take (i := 1) (v := ?v1a) (by simp only [List.getElem?_toArray, List.getElem?_cons_succ, List.getElem?_cons_zero]; rfl) (by kernel_rfl) (by kernel_rfl) (by kernel_rfl) (by exact fun _ _ _ h => h) (Or.inl ⟨by rfl, ?h1a⟩) (by assumption) ?_
    case h1a => (intro W hSw; (try dsimp only at hSw); go_simp; try with_reducible rfl)
    try simp only [Act.put, List.setIfInBounds_toArray, List.set_cons_zero, List.set_cons_succ]
    refine wpAnyH_take (i := 2) (v := ?v2a) (by simp only [List.getElem?_toArray, List.getElem?_cons_succ, List.getElem?_cons_zero]; rfl) (by kernel_rfl) (by kernel_rfl) (by kernel_rfl) (by exact fun _ _ _ h => h) (Or.inl ⟨by rfl, ?h2a⟩) (by assumption) ?_
    case h2a => (intro W hSw; (try dsimp only at hSw); go_simp; try with_reducible rfl)
    try simp only [Act.put, List.setIfInBounds_toArray, List.set_cons_zero, List.set_cons_succ]
    refine wpAnyH_take (i := 3) (v := ?v3a) (by simp only [List.getElem?_toArray, List.getElem?_cons_succ, List.getElem?_cons_zero]; rfl) (by kernel_rfl) (by kernel_rfl) (by kernel_rfl) (by exact fun _ _ _ h => h) (Or.inl ⟨by rfl, ?h3a⟩) (by assumption) ?_
    case h3a => (intro W hSw; (try dsimp only at hSw); go_simp; try with_reducible rfl)
    try simp only [Act.put, List.setIfInBounds_toArray, List.set_cons_zero, List.set_cons_succ]
    refine wpAnyH_take (i := 4) (v := ?v4a) (by simp only [List.getElem?_toArray, List.getElem?_cons_succ, List.getElem?_cons_zero]; rfl) (by kernel_rfl) (by kernel_rfl) (by kernel_rfl) (by exact fun _ _ _ h => h) (Or.inl ⟨by rfl, ?h4a⟩) (by assumption) ?_
    case h4a => (intro W hSw; (try dsimp only at hSw); go_simp; try with_reducible rfl)
    try simp only [Act.put, List.setIfInBounds_toArray, List.set_cons_zero, List.set_cons_succ]
    refine wpAnyH_take (i := 5) (v := ?v5a) (by simp only [List.getElem?_toArray, List.getElem?_cons_succ, List.getElem?_cons_zero]; rfl) (by kernel_rfl) (by kernel_rfl) (by kernel_rfl) (by exact fun _ _ _ h => h) (Or.inl ⟨by rfl, ?h5a⟩) (by assumption) ?_
    case h5a => (intro W hSw; (try dsimp only at hSw); go_simp; try with_reducible rfl)
    try simp only [Act.put, List.setIfInBounds_toArray, List.set_cons_zero, List.set_cons_succ]
    refine wpAnyH_take (i := 6) (v := ?v6a) (by simp only [List.getElem?_toArray, List.getElem?_cons_succ, List.getElem?_cons_zero]; rfl) (by kernel_rfl) (by kernel_rfl) (by kernel_rfl) (by exact fun _ _ _ h => h) (Or.inl ⟨by rfl, ?h6a⟩) (by assumption) ?_
    case h6a => (intro W hSw; (try dsimp only at hSw); go_simp; try with_reducible rfl)
    try simp only [Act.put, List.setIfInBounds_toArray, List.set_cons_zero, List.set_cons_succ]
    refine wpAnyH_take (i := 7) (v := ?v7a) (by simp only [List.getElem?_toArray, List.getElem?_cons_succ, List.getElem?_cons_zero]; rfl) (by kernel_rfl) (by kernel_rfl) (by kernel_rfl) (by exact fun _ _ _ h => h) (Or.inl ⟨by rfl, ?h7a⟩) (by assumption) ?_
    case h7a => (intro W hSw; (try dsimp only at hSw); go_simp; try with_reducible rfl)
    try simp only [Act.put, List.setIfInBounds_toArray, List.set_cons_zero, List.set_cons_succ]
    refine wpAnyH_take (i := 8) (v := ?v8a) (by simp only [List.getElem?_toArray, List.getElem?_cons_succ, List.getElem?_cons_zero]; rfl) (by kernel_rfl) (by kernel_rfl) (by kernel_rfl) (by exact fun _ _ _ h => h) (Or.inl ⟨by rfl, ?h8a⟩) (by assumption) ?_
    case h8a => (intro W hSw; (try dsimp only at hSw); go_simp; try with_reducible rfl)
    try simp only [Act.put, List.setIfInBounds_toArray, List.set_cons_zero, List.set_cons_succ]
    refine wpAnyH_take (i := 9) (v := ?v9a) (by simp only [List.getElem?_toArray, List.getElem?_cons_succ, List.getElem?_cons_zero]; rfl) (by kernel_rfl) (by kernel_rfl) (by kernel_rfl) (by exact fun _ _ _ h => h) (Or.inl ⟨by rfl, ?h9a⟩) (by assumption) ?_
    case h9a => (intro W hSw; (try dsimp only at hSw); go_simp; try with_reducible rfl)
    try simp only [Act.put, List.setIfInBounds_toArray, List.set_cons_zero, List.set_cons_succ]
    refine wpAnyH_take (i := 10) (v := ?v10a) (by simp only [List.getElem?_toArray, List.getElem?_cons_succ, List.getElem?_cons_zero]; rfl) (by kernel_rfl) (by kernel_rfl) (by kernel_rfl) (by exact fun _ _ _ h => h) (Or.inl ⟨by rfl, ?h10a⟩) (by assumption) ?_
    case h10a => (intro W hSw; (try dsimp only at hSw); go_simp; try with_reducible rfl)
    try simp only [Act.put, List.setIfInBounds_toArray, List.set_cons_zero, List.set_cons_succ]
    refine wpAnyH_take (i := 11) (v := ?v11a) (by simp only [List.getElem?_toArray, List.getElem?_cons_succ, List.getElem?_cons_zero]; rfl) (by kernel_rfl) (by kernel_rfl) (by kernel_rfl) (by exact fun _ _ _ h => h) (Or.inl ⟨by rfl, ?h11a⟩) (by assumption) ?_
    case h11a => (intro W hSw; (try dsimp only at hSw); go_simp; try with_reducible rfl)
    try simp only [Act.put, List.setIfInBounds_toArray, List.set_cons_zero, List.set_cons_succ]
    refine wpAnyH_take (i := 12) (by simp only [List.getElem?_toArray, List.getElem?_cons_succ, List.getElem?_cons_zero]; rfl) (by kernel_rfl) (by kernel_rfl) (by kernel_rfl) (by exact fun _ _ _ h => h) (yieldsIf_conv (by rfl) 39 9 (.tmp 107) rfl _ _ rfl XC.out) (by assumption) ?_
    try simp only [Act.put, List.setIfInBounds_toArray, List.set_cons_zero, List.set_cons_succ]
    refine wpAnyH_take (i := 13) (v := ?v13a) (by simp only [List.getElem?_toArray, List.getElem?_cons_succ, List.getElem?_cons_zero]; rfl) (by kernel_rfl) (by kernel_rfl) (by kernel_rfl) (by exact fun _ _ _ h => h) (Or.inl ⟨by rfl, ?h13a⟩) (by assumption) ?_
    case h13a => (intro W hSw; (try dsimp only at hSw); go_simp; try with_reducible rfl)
    try simp only [Act.put, List.setIfInBounds_toArray, List.set_cons_zero, List.set_cons_succ]
    refine wpAnyH_ready (rs := [14]) (by kernel_rfl) (by simp) ?_
    refine AllReadyH.cons (by simp only [List.getElem?_toArray, List.getElem?_cons_succ, List.getElem?_cons_zero]; rfl) (fun K hK => ?_) AllReadyH.nil
    go_simp
    refine (FC.out _ DRB.out).mono ?_
    rintro e w14 ⟨A14, q14, c14, rfl, own14, b14⟩
    have hS14 : Below w12.heap.size w12 w14 := (Below.refl w12.heap.size w12).drew.trans b14
    have FB14 := Lib.hid own14.x.has
    have B14 := Lib.hid hS14
    clear own14 b14
    refine hK _ _ hS14 (fun hH14 => ?_)
    clear hK K
    try simp only [Act.put, List.setIfInBounds_toArray, List.set_cons_zero, List.set_cons_succ]
    refine wpAnyH_ready (rs := [15]) (by kernel_rfl) (by simp) ?_
    refine AllReadyH.cons (by simp only [List.getElem?_toArray, List.getElem?_cons_succ, List.getElem?_cons_zero]; rfl) (fun K hK => ?_) AllReadyH.nil
    refine step_convG (by rfl) 39 9 (.tmp 110) rfl _ _ rfl (conv_str FB14.out) ?_
    refine hK _ _ B14.out (fun hH15 => ?_)
    clear hK K
    try simp only [Act.put, List.setIfInBounds_toArray, List.set_cons_zero, List.set_cons_succ]
    refine wpAnyH_take (i := 16) (by simp only [List.getElem?_toArray, List.getElem?_cons_succ, List.getElem?_cons_zero]; rfl) (by kernel_rfl) (by kernel_rfl) (by kernel_rfl) (by exact fun _ _ _ h => h) (yieldsIf_binO (by rfl) .eql 9 9 (.tmp 108) (.tmp 111) rfl _ _ _ rfl rfl (fun w => guard_eql_str _ _ _ _ w) EQD.out) (by assumption) ?_
    try simp only [Act.put, List.setIfInBounds_toArray, List.set_cons_zero, List.set_cons_succ]
    refine wpAnyH_take (i := 17) (v := ?v17a) (by simp only [List.getElem?_toArray, List.getElem?_cons_succ, List.getElem?_cons_zero]; rfl) (by kernel_rfl) (by kernel_rfl) (by kernel_rfl) (by exact fun _ _ _ h => h) (Or.inl ⟨by rfl, ?h17a⟩) (by assumption) ?_
    case h17a => (intro W hSw; (try dsimp only at hSw); go_simp; try with_reducible rfl)
    try simp only [Act.put, List.setIfInBounds_toArray, List.set_cons_zero, List.set_cons_succ]
    refine wpAnyH_take (i := 18) (v := ?v18a) (by simp only [List.getElem?_toArray, List.getElem?_cons_succ, List.getElem?_cons_zero]; rfl) (by kernel_rfl) (by kernel_rfl) (by kernel_rfl) (by exact fun _ _ _ h => h) (Or.inl ⟨by rfl, ?h18a⟩) (by assumption) ?_
    case h18a => (intro W hSw; (try dsimp only at hSw); go_simp; try with_reducible rfl)
    try simp only [Act.put, List.setIfInBounds_toArray, List.set_cons_zero, List.set_cons_succ]
    refine wpAnyH_take (i := 19) (v := ?v19a) (by simp only [List.getElem?_toArray, List.getElem?_cons_succ, List.getElem?_cons_zero]; rfl) (by kernel_rfl) (by kernel_rfl) (by kernel_rfl) (by exact fun _ _ _ h => h) (Or.inl ⟨by rfl, ?h19a⟩) (by assumption) ?_
    case h19a => (intro W hSw; (try dsimp only at hSw); go_simp; try with_reducible rfl)
    try simp only [Act.put, List.setIfInBounds_toArray, List.set_cons_zero, List.set_cons_succ]
    refine wpAnyH_take (i := 20) (by simp only [List.getElem?_toArray, List.getElem?_cons_succ, List.getElem?_cons_zero]; rfl) (by kernel_rfl) (by kernel_rfl) (by kernel_rfl) (by exact fun _ _ _ h => h) (yieldsIf_conv (by rfl) 39 9 (.tmp 115) rfl _ _ rfl YC.out) (by assumption) ?_
    try simp only [Act.put, List.setIfInBounds_toArray, List.set_cons_zero, List.set_cons_succ]
    refine wpAnyH_take (i := 21) (v := ?v21a) (by simp only [List.getElem?_toArray, List.getElem?_cons_succ, List.getElem?_cons_zero]; rfl) (by kernel_rfl) (by kernel_rfl) (by kernel_rfl) (by exact fun _ _ _ h => h) (Or.inl ⟨by rfl, ?h21a⟩) (by assumption) ?_
    case h21a => (intro W hSw; (try dsimp only at hSw); go_simp; try with_reducible rfl)
    try simp only [Act.put, List.setIfInBounds_toArray, List.set_cons_zero, List.set_cons_succ]
    refine wpAnyH_take (i := 22) (by simp only [List.getElem?_toArray, List.getElem?_cons_succ, List.getElem?_cons_zero]; rfl) (by kernel_rfl) (by kernel_rfl) (by kernel_rfl) (by exact fun _ _ _ h => h) (yieldsIf_binO (by rfl) .eql 9 9 (.tmp 116) (.tmp 117) rfl _ _ _ rfl rfl (fun w => guard_eql_str _ _ _ _ w) EQZ.out) (by assumption) ?_
    try simp only [Act.put, List.setIfInBounds_toArray, List.set_cons_zero, List.set_cons_succ]
    refine wpAnyH_take (i := 23) (v := ?v23a) (by simp only [List.getElem?_toArray, List.getElem?_cons_succ, List.getElem?_cons_zero]; rfl) (by kernel_rfl) (by kernel_rfl) (by kernel_rfl) (by exact fun _ _ _ h => h) (Or.inl ⟨by rfl, ?h23a⟩) (by assumption) ?_
    case h23a => (intro W hSw; (try dsimp only at hSw); go_simp; try with_reducible rfl)
    try simp only [Act.put, List.setIfInBounds_toArray, List.set_cons_zero, List.set_cons_succ]
    refine wpAnyH_take (i := 24) (v := ?v24a) (by simp only [List.getElem?_toArray, List.getElem?_cons_succ, List.getElem?_cons_zero]; rfl) (by kernel_rfl) (by kernel_rfl) (by kernel_rfl) (by exact fun _ _ _ h => h) (Or.inl ⟨by rfl, ?h24a⟩) (by assumption) ?_
    case h24a => (intro W hSw; (try dsimp only at hSw); go_simp; try with_reducible rfl)
    try simp only [Act.put, List.setIfInBounds_toArray, List.set_cons_zero, List.set_cons_succ]
    refine wpAnyH_take (i := 25) (v := ?v25a) (by simp only [List.getElem?_toArray, List.getElem?_cons_succ, List.getElem?_cons_zero]; rfl) (by kernel_rfl) (by kernel_rfl) (by kernel_rfl) (by exact fun _ _ _ h => h) (Or.inl ⟨by rfl, ?h25a⟩) (by assumption) ?_
    case h25a => (intro W hSw; (try dsimp only at hSw); go_simp; try with_reducible rfl)
    try simp only [Act.put, List.setIfInBounds_toArray, List.set_cons_zero, List.set_cons_succ]
    refine wpAnyH_take (i := 26) (by simp only [List.getElem?_toArray, List.getElem?_cons_succ, List.getElem?_cons_zero]; rfl) (by kernel_rfl) (by kernel_rfl) (by kernel_rfl) (by exact fun _ _ _ h => h) (yieldsIf_conv (by rfl) 39 9 (.tmp 121) rfl _ _ rfl ZC.out) (by assumption) ?_
    try simp only [Act.put, List.setIfInBounds_toArray, List.set_cons_zero, List.set_cons_succ]
    refine wpAnyH_take (i := 27) (v := ?v27a) (by simp only [List.getElem?_toArray, List.getElem?_cons_succ, List.getElem?_cons_zero]; rfl) (by kernel_rfl) (by kernel_rfl) (by kernel_rfl) (by exact fun _ _ _ h => h) (Or.inl ⟨by rfl, ?h27a⟩) (by assumption) ?_
    case h27a => (intro W hSw; (try dsimp only at hSw); go_simp; try with_reducible rfl)
    try simp only [Act.put, List.setIfInBounds_toArray, List.set_cons_zero, List.set_cons_succ]
    refine wpAnyH_take (i := 28) (by simp only [List.getElem?_toArray, List.getElem?_cons_succ, List.getElem?_cons_zero]; rfl) (by kernel_rfl) (by kernel_rfl) (by kernel_rfl) (by exact fun _ _ _ h => h) (yieldsIf_binO (by rfl) .eql 9 9 (.tmp 122) (.tmp 123) rfl _ _ _ rfl rfl (fun w => guard_eql_str _ _ _ _ w) EQZ.out) (by assumption) ?_
    try simp only [Act.put, List.setIfInBounds_toArray, List.set_cons_zero, List.set_cons_succ]
    refine wpAnyH_take (i := 29) (v := ?v29a) (by simp only [List.getElem?_toArray, List.getElem?_cons_succ, List.getElem?_cons_zero]; rfl) (by kernel_rfl) (by kernel_rfl) (by kernel_rfl) (by exact fun _ _ _ h => h) (Or.inl ⟨by rfl, ?h29a⟩) (by assumption) ?_
    case h29a => (intro W hSw; (try dsimp only at hSw); go_simp; try with_reducible rfl)
    try simp only [Act.put, List.setIfInBounds_toArray, List.set_cons_zero, List.set_cons_succ]
    refine wpAnyH_take (i := 30) (v := ?v30a) (by simp only [List.getElem?_toArray, List.getElem?_cons_succ, List.getElem?_cons_zero]; rfl) (by kernel_rfl) (by kernel_rfl) (by kernel_rfl) (by exact fun _ _ _ h => h) (Or.inl ⟨by rfl, ?h30a⟩) (by assumption) ?_
    case h30a => (intro W hSw; (try dsimp only at hSw); go_simp; try with_reducible rfl)
    try simp only [Act.put, List.setIfInBounds_toArray, List.set_cons_zero, List.set_cons_succ]
    refine wpAnyH_take (i := 31) (v := ?v31a) (by simp only [List.getElem?_toArray, List.getElem?_cons_succ, List.getElem?_cons_zero]; rfl) (by kernel_rfl) (by kernel_rfl) (by kernel_rfl) (by exact fun _ _ _ h => h) (Or.inl ⟨by rfl, ?h31a⟩) (by assumption) ?_
    case h31a => (intro W hSw; (try dsimp only at hSw); go_simp; try with_reducible rfl)
    try simp only [Act.put, List.setIfInBounds_toArray, List.set_cons_zero, List.set_cons_succ]
    refine wpAnyH_take (i := 32) (by simp only [List.getElem?_toArray, List.getElem?_cons_succ, List.getElem?_cons_zero]; rfl) (by kernel_rfl) (by kernel_rfl) (by kernel_rfl) (by exact fun _ _ _ h => h) (yieldsIf_conv (by rfl) 39 9 (.tmp 127) rfl _ _ rfl WC.out) (by assumption) ?_
    try simp only [Act.put, List.setIfInBounds_toArray, List.set_cons_zero, List.set_cons_succ]
    refine wpAnyH_take (i := 33) (v := ?v33a) (by simp only [List.getElem?_toArray, List.getElem?_cons_succ, List.getElem?_cons_zero]; rfl) (by kernel_rfl) (by kernel_rfl) (by kernel_rfl) (by exact fun _ _ _ h => h) (Or.inl ⟨by rfl, ?h33a⟩) (by assumption) ?_
    case h33a => (intro W hSw; (try dsimp only at hSw); go_simp; try with_reducible rfl)
    try simp only [Act.put, List.setIfInBounds_toArray, List.set_cons_zero, List.set_cons_succ]
    refine wpAnyH_take (i := 34) (by simp only [List.getElem?_toArray, List.getElem?_cons_succ, List.getElem?_cons_zero]; rfl) (by kernel_rfl) (by kernel_rfl) (by kernel_rfl) (by exact fun _ _ _ h => h) (yieldsIf_conv (by rfl) 39 9 (.tmp 129) rfl _ _ rfl XC.out) (by assumption) ?_
    try simp only [Act.put, List.setIfInBounds_toArray, List.set_cons_zero, List.set_cons_succ]
    refine wpAnyH_take (i := 35) (by simp only [List.getElem?_toArray, List.getElem?_cons_succ, List.getElem?_cons_zero]; rfl) (by kernel_rfl) (by kernel_rfl) (by kernel_rfl) (by exact fun _ _ _ h => h) (yieldsIf_binO (by rfl) .eql 9 9 (.tmp 128) (.tmp 130) rfl _ _ _ rfl rfl (fun w => guard_eql_str _ _ _ _ w) EQM.out) (by assumption) ?_
    try simp only [Act.put, List.setIfInBounds_toArray, List.set_cons_zero, List.set_cons_succ]
    refine wpAnyH_take (i := 36) (v := ?v36a) (by simp only [List.getElem?_toArray, List.getElem?_cons_succ, List.getElem?_cons_zero]; rfl) (by kernel_rfl) (by kernel_rfl) (by kernel_rfl) (by exact fun _ _ _ h => h) (Or.inl ⟨by rfl, ?h36a⟩) (by assumption) ?_
    case h36a => (intro W hSw; (try dsimp only at hSw); go_simp; try with_reducible rfl)
    try simp only [Act.put, List.setIfInBounds_toArray, List.set_cons_zero, List.set_cons_succ]
    refine wpAnyH_take (i := 37) (v := ?v37a) (by simp only [List.getElem?_toArray, List.getElem?_cons_succ, List.getElem?_cons_zero]; rfl) (by kernel_rfl) (by kernel_rfl) (by kernel_rfl) (by exact fun _ _ _ h => h) (Or.inl ⟨by rfl, ?h37a⟩) (by assumption) ?_
    case h37a => (intro W hSw; (try dsimp only at hSw); go_simp; try with_reducible rfl)
    try simp only [Act.put, List.setIfInBounds_toArray, List.set_cons_zero, List.set_cons_succ]
    refine wpAnyH_take (i := 38) (v := ?v38a) (by simp only [List.getElem?_toArray, List.getElem?_cons_succ, List.getElem?_cons_zero]; rfl) (by kernel_rfl) (by kernel_rfl) (by kernel_rfl) (by exact fun _ _ _ h => h) (Or.inl ⟨by rfl, ?h38a⟩) (by assumption) ?_
    case h38a => (intro W hSw; (try dsimp only at hSw); go_simp; try with_reducible rfl)
    try simp only [Act.put, List.setIfInBounds_toArray, List.set_cons_zero, List.set_cons_succ]
    refine wpAnyH_take (i := 39) (by simp only [List.getElem?_toArray, List.getElem?_cons_succ, List.getElem?_cons_zero]; rfl) (by kernel_rfl) (by kernel_rfl) (by kernel_rfl) (by exact fun _ _ _ h => h) (yieldsIf_conv (by rfl) 39 9 (.tmp 134) rfl _ _ rfl XC.out) (by assumption) ?_
    try simp only [Act.put, List.setIfInBounds_toArray, List.set_cons_zero, List.set_cons_succ]
    refine wpAnyH_take (i := 40) (v := ?v40a) (by simp only [List.getElem?_toArray, List.getElem?_cons_succ, List.getElem?_cons_zero]; rfl) (by kernel_rfl) (by kernel_rfl) (by kernel_rfl) (by exact fun _ _ _ h => h) (Or.inl ⟨by rfl, ?h40a⟩) (by assumption) ?_
    case h40a => (intro W hSw; (try dsimp only at hSw); go_simp; try with_reducible rfl)
    try simp only [Act.put, List.setIfInBounds_toArray, List.set_cons_zero, List.set_cons_succ]
    refine wpAnyH_take (i := 41) (by simp only [List.getElem?_toArray, List.getElem?_cons_succ, List.getElem?_cons_zero]; rfl) (by kernel_rfl) (by kernel_rfl) (by kernel_rfl) (by exact fun _ _ _ h => h) (yieldsIf_binO (by rfl) .eql 9 9 (.tmp 135) (.tmp 136) rfl _ _ _ rfl rfl (fun w => guard_eql_str _ _ _ _ w) EQN.out) (by assumption) ?_
    try simp only [Act.put, List.setIfInBounds_toArray, List.set_cons_zero, List.set_cons_succ]
    refine wpAnyH_take (i := 42) (v := ?v42a) (by simp only [List.getElem?_toArray, List.getElem?_cons_succ, List.getElem?_cons_zero]; rfl) (by kernel_rfl) (by kernel_rfl) (by kernel_rfl) (by exact fun _ _ _ h => h) (Or.inl ⟨by rfl, ?h42a⟩) (by assumption) ?_
    case h42a => (intro W hSw; (try dsimp only at hSw); go_simp; try with_reducible rfl)
    try simp only [Act.put, List.setIfInBounds_toArray, List.set_cons_zero, List.set_cons_succ]
    refine wpAnyH_take (i := 43) (v := ?v43a) (by simp only [List.getElem?_toArray, List.getElem?_cons_succ, List.getElem?_cons_zero]; rfl) (by kernel_rfl) (by kernel_rfl) (by kernel_rfl) (by exact fun _ _ _ h => h) (Or.inl ⟨by rfl, ?h43a⟩) (by assumption) ?_
    case h43a => (intro W hSw; (try dsimp only at hSw); go_simp; try with_reducible rfl)
    try simp only [Act.put, List.setIfInBounds_toArray, List.set_cons_zero, List.set_cons_succ]
    refine wpAnyH_take (i := 44) (v := ?v44a) (by simp only [List.getElem?_toArray, List.getElem?_cons_succ, List.getElem?_cons_zero]; rfl) (by kernel_rfl) (by kernel_rfl) (by kernel_rfl) (by exact fun _ _ _ h => h) (Or.inl ⟨by rfl, ?h44a⟩) (by assumption) ?_
    case h44a => (intro W hSw; (try dsimp only at hSw); go_simp; try with_reducible rfl)
    try simp only [Act.put, List.setIfInBounds_toArray, List.set_cons_zero, List.set_cons_succ]
    refine wpAnyH_take (i := 45) (v := ?v45a) (by simp only [List.getElem?_toArray, List.getElem?_cons_succ, List.getElem?_cons_zero]; rfl) (by kernel_rfl) (by kernel_rfl) (by kernel_rfl) (by exact fun _ _ _ h => h) (Or.inl ⟨by rfl, ?h45a⟩) (by assumption) ?_
    case h45a => (intro W hSw; (try dsimp only at hSw); go_simp; try with_reducible rfl)
    try simp only [Act.put, List.setIfInBounds_toArray, List.set_cons_zero, List.set_cons_succ]
    refine wpAnyH_done (by kernel_rfl) ?_ _
    try simp only [Act.put, List.setIfInBounds_toArray, List.set_cons_zero, List.set_cons_succ]
    go_wp2_with fail
    go_ret
    exact ⟨rfl, BL12.out.trans (B14.out.mono BL12.out.size)⟩
  · skip
    have CC := Lib.hid (commit_tx U9.out S2.out (by omega) T9.out BG.out (by show (frK (E0.set t (strB D)) 46).length ≤ 40; rw [N1.out t ht]; omega) (by show (frK (E0.set t (strB D)) 46).length < 16; rw [N1.out t ht]; omega) (by omega))
    go_upto_region 20 with (first
      | (go_at_call 34; refine CC.out.mono ?_; rintro e w10 ⟨rfl, z10, ⟨p10, j10, T10, v10, u10, s10, _, _⟩, y10⟩
         have hx : txH (fun _ => zs) (E0.set t (strB D)) t = D := by unfold txH; rw [GE.out t ht, if_pos Z1.out, LZ.out]
         have rd := u10.readK s10 (by omega) t (by omega)
         rw [hx] at rd
         have TN10 : Hid (TN w10 (.pointer (some ⟨gt, 0, none⟩))) := Lib.hid (.inr ⟨gt, rfl, z10⟩)
         have HZ10 := Lib.hid z10
         have RD := Lib.hid rd
         have X10 := Lib.hid (X9.out.farB y10 (fun k hk => MB'.out k (.inl hk)))
         have Y10 := Lib.hid (Y9.out.farB y10 (fun k hk => MB'.out k (.inr (.inl hk))))
         have Z10 := Lib.hid (Z9.out.farB y10 (fun k hk => MB'.out k (.inr (.inr hk))))
         clear z10 u10 y10 rd)
      | (go_at_call 28; refine RD.out.mono ?_; rintro e w11 ⟨A11, q11, c11, rfl, x11, u11, y11⟩
         have W11 : Hid (HasB w11 w11.heap.size A11 q11 D) := Lib.hid x11.has
         have TN11 : Hid (TN w11 (.pointer (some ⟨gt, 0, none⟩))) := Lib.hid (.inr ⟨gt, rfl, HZ10.out.only y11 (fun h => h BG.out)⟩)
         have X11 := Lib.hid (X10.out.far y11 (fun a ha hh => hh (MB'.out _ (.inl ⟨a, ha, rfl⟩)).1))
         have Y11 := Lib.hid (Y10.out.far y11 (fun a ha hh => hh (MB'.out _ (.inr (.inl ⟨a, ha, rfl⟩))).1))
         have Z11 := Lib.hid (Z10.out.far y11 (fun a ha hh => hh (MB'.out _ (.inr (.inr ⟨a, ha, rfl⟩))).1))
         have BL11 := Lib.hid u11.up.bel
         clear x11 u11 y11)
      | (go_at_call 36; refine (tread_no TN11.out (t : Int)).mono ?_; rintro e w11' ⟨rfl, rfl⟩)
      | (go_at_call 24; refine (FC0.out _).mono ?_; rintro e w12 ⟨A12, q12, c12, rfl, own12, b12⟩
         have CV12 := Lib.hid (conv_str (c := c12) own12.x.has)
         have W12 := Lib.hid (W11.out.on b12)
         have X12 := Lib.hid (X11.out.on b12)
         have Y12 := Lib.hid (Y11.out.on b12)
         have Z12 := Lib.hid (Z11.out.on b12)
         have BL12 := Lib.hid (BL11.out.trans (b12.mono BL11.out.size))
         clear own12 b12)
      | (refine wpList_convG (by rfl) 39 9 (.tmp 94) rfl _ _ rfl CV12.out ?_))
    have XC : Hid (∀ W, Below w12.heap.size w12 W → (convert 39 9 (.slice A7 q7 c7)).run Try.prog W = .ok (.string (strB D)) W) := Lib.hid (fun W hW => conv_str (X12.out.on hW))
    have YC : Hid (∀ W, Below w12.heap.size w12 W → (convert 39 9 (.slice A8 q8 c8)).run Try.prog W = .ok (.string (strB zs)) W) := Lib.hid (fun W hW => conv_str (Y12.out.on hW))
    have ZC : Hid (∀ W, Below w12.heap.size w12 W → (convert 39 9 (.slice A9 q9 c9)).run Try.prog W = .ok (.string (strB zs)) W) := Lib.hid (fun W hW => conv_str (Z12.out.on hW))
    have WC : Hid (∀ W, Below w12.heap.size w12 W → (convert 39 9 (.slice A11 q11 c11)).run Try.prog W = .ok (.string (strB D)) W) := Lib.hid (fun W hW => conv_str (W12.out.on hW))
    have FCC := Lib.hid (FC.out w12 BL12.out)
    have EQD : Hid (∀ w, (binOp .eql 9 (.string (strB D)) (.string (strB D))).run Try.prog w = .ok (.bool true) w) := Lib.hid (fun w => by have := eql_strB D D w; rwa [decide_eq_true rfl] at this)
    have EQZ : Hid (∀ w, (binOp .eql 9 (.string (strB zs)) (.string (strB zs))).run Try.prog w = .ok (.bool true) w) := Lib.hid (fun w => by have := eql_strB zs zs w; rwa [decide_eq_true rfl] at this)
    obtain ⟨R, hR⟩ : ∃ R, decide (zs = D) = R := ⟨_, rfl⟩
    have EQM : Hid (∀ w, (binOp .eql 9 (.string (strB zs)) (.string (strB D))).run Try.prog w = .ok (.bool R) w) := Lib.hid (fun w => by have := eql_strB zs D w; rwa [hR] at this)
    have EQN : Hid (∀ w, (binOp .eql 9 (.string (strB D)) (.string (strB zs))).run Try.prog w = .ok (.bool R) w) := Lib.hid (fun w => by
      have h1 := eql_strB D zs w
      have h2 : decide (D = zs) = R := by rw [← hR]; exact decide_eq_decide.2 ⟨Eq.symm, Eq.symm⟩
      rwa [h2] at h1)
    clear hR
    have DRB : Hid (Below w.heap.size w w12.drew) := Lib.hid BL12.out.drew
    refine wp_region_held_drew (S := fun W => Below w12.heap.size w12 W) (by kernel_rfl) (Below.refl _ _).drew (fun hHeld => ?_)
    refine wpAnyH_take (i := 0) (v := ?v0c) (by simp only [List.getElem?_toArray, List.getElem?_cons_succ, List.getElem?_cons_zero]; rfl) (by kernel_rfl) (by kernel_rfl) (by kernel_rfl) (by exact fun _ _ _ h => h) (Or.inl ⟨by rfl, ?h0c⟩) (by assumption) ?_
    case h0c => (intro W hSw; (try dsimp only at hSw); go_simp; try with_reducible rfl)
    try simp only [Act.put, List.setIfInBounds_toArray, List.set_cons_zero, List.set_cons_succ]
    refine wpAnyH_take (i := 1) (v := ?v1c) (by simp only [List.getElem?_toArray, List.getElem?_cons_succ, List.getElem?_cons_zero]; rfl) (by kernel_rfl) (by kernel_rfl) (by kernel_rfl) (by exact fun _ _ _ h => h) (Or.inl ⟨by rfl, ?h1c⟩) (by assumption) ?_
    case h1c => (intro W hSw; (try dsimp only at hSw); go_simp; try with_reducible rfl)
    try simp only [Act.put, List.setIfInBounds_toArray, List.set_cons_zero, List.set_cons_succ]
    refine wpAnyH_take (i := 2) (v := ?v2c) (by simp only [List.getElem?_toArray, List.getElem?_cons_succ, List.getElem?_cons_zero]; rfl) (by kernel_rfl) (by kernel_rfl) (by kernel_rfl) (by exact fun _ _ _ h => h) (Or.inl ⟨by rfl, ?h2c⟩) (by assumption) ?_
    case h2c => (intro W hSw; (try dsimp only at hSw); go_simp; try with_reducible rfl)
    try simp only [Act.put, List.setIfInBounds_toArray, List.set_cons_zero, List.set_cons_succ]
    refine wpAnyH_take (i := 3) (v := ?v3c) (by simp only [List.getElem?_toArray, List.getElem?_cons_succ, List.getElem?_cons_zero]; rfl) (by kernel_rfl) (by kernel_rfl) (by kernel_rfl) (by exact fun _ _ _ h => h) (Or.inl ⟨by rfl, ?h3c⟩) (by assumption) ?_
    case h3c => (intro W hSw; (try dsimp only at hSw); go_simp; try with_reducible rfl)
    try simp only [Act.put, List.setIfInBounds_toArray, List.set_cons_zero, List.set_cons_succ]
    refine wpAnyH_take (i := 4) (v := ?v4c) (by simp only [List.getElem?_toArray, List.getElem?_cons_succ, List.getElem?_cons_zero]; rfl) (by kernel_rfl) (by kernel_rfl) (by kernel_rfl) (by exact fun _ _ _ h => h) (Or.inl ⟨by rfl, ?h4c⟩) (by assumption) ?_
    case h4c => (intro W hSw; (try dsimp only at hSw); go_simp; try with_reducible rfl)
    try simp only [Act.put, List.setIfInBounds_toArray, List.set_cons_zero, List.set_cons_succ]
    refine wpAnyH_take (i := 5) (v := ?v5c) (by simp only [List.getElem?_toArray, List.getElem?_cons_succ, List.getElem?_cons_zero]; rfl) (by kernel_rfl) (by kernel_rfl) (by kernel_rfl) (by exact fun _ _ _ h => h) (Or.inl ⟨by rfl, ?h5c⟩) (by assumption) ?_
    case h5c => (intro W hSw; (try dsimp only at hSw); go_simp; try with_reducible rfl)
    try simp only [Act.put, List.setIfInBounds_toArray, List.set_cons_zero, List.set_cons_succ]
    refine wpAnyH_take (i := 6) (v := ?v6c) (by simp only [List.getElem?_toArray, List.getElem?_cons_succ, List.getElem?_cons_zero]; rfl) (by kernel_rfl) (by kernel_rfl) (by kernel_rfl) (by exact fun _ _ _ h => h) (Or.inl ⟨by rfl, ?h6c⟩) (by assumption) ?_
    case h6c => (intro W hSw; (try dsimp only at hSw); go_simp; try with_reducible rfl)
    try simp only [Act.put, List.setIfInBounds_toArray, List.set_cons_zero, List.set_cons_succ]
    refine wpAnyH_take (i := 7) (v := ?v7c) (by simp only [List.getElem?_toArray, List.getElem?_cons_succ, List.getElem?_cons_zero]; rfl) (by kernel_rfl) (by kernel_rfl) (by kernel_rfl) (by exact fun _ _ _ h => h) (Or.inl ⟨by rfl, ?h7c⟩) (by assumption) ?_
    case h7c => (intro W hSw; (try dsimp only at hSw); go_simp; try with_reducible rfl)
    try simp only [Act.put, List.setIfInBounds_toArray, List.set_cons_zero, List.set_cons_succ]
    refine wpAnyH_take (i := 8) (v := ?v8c) (by simp only [List.getElem?_toArray, List.getElem?_cons_succ, List.getElem?_cons_zero]; rfl) (by kernel_rfl) (by kernel_rfl) (by kernel_rfl) (by exact fun _ _ _ h => h) (Or.inl ⟨by rfl, ?h8c⟩) (by assumption) ?_
    case h8c => (intro W hSw; (try dsimp only at hSw); go_simp; try with_reducible rfl)
    try simp only [Act.put, List.setIfInBounds_toArray, List.set_cons_zero, List.set_cons_succ]
    refine wpAnyH_take (i := 9) (v := ?v9c) (by simp only [List.getElem?_toArray, List.getElem?_cons_succ, List.getElem?_cons_zero]; rfl) (by kernel_rfl) (by kernel_rfl) (by kernel_rfl) (by exact fun _ _ _ h => h) (Or.inl ⟨by rfl, ?h9c⟩) (by assumption) ?_
    case h9c => (intro W hSw; (try dsimp only at hSw); go_simp; try with_reducible rfl)
    try simp only [Act.put, List.setIfInBounds_toArray, List.set_cons_zero, List.set_cons_succ]
    refine wpAnyH_take (i := 10) (v := ?v10c) (by simp only [List.getElem?_toArray, List.getElem?_cons_succ, List.getElem?_cons_zero]; rfl) (by kernel_rfl) (by kernel_rfl) (by kernel_rfl) (by exact fun _ _ _ h => h) (Or.inl ⟨by rfl, ?h10c⟩) (by assumption) ?_
    case h10c => (intro W hSw; (try dsimp only at hSw); go_simp; try with_reducible rfl)
    try simp only [Act.put, List.setIfInBounds_toArray, List.set_cons_zero, List.set_cons_succ]
    refine wpAnyH_take (i := 11) (v := ?v11c) (by simp only [List.getElem?_toArray, List.getElem?_cons_succ, List.getElem?_cons_zero]; rfl) (by kernel_rfl) (by kernel_rfl) (by kernel_rfl) (by exact fun _ _ _ h => h) (Or.inl ⟨by rfl, ?h11c⟩) (by assumption) ?_
    case h11c => (intro W hSw; (try dsimp only at hSw); go_simp; try with_reducible rfl)
    try simp only [Act.put, List.setIfInBounds_toArray, List.set_cons_zero, List.set_cons_succ]
    refine wpAnyH_take (i := 12) (by simp only [List.getElem?_toArray, List.getElem?_cons_succ, List.getElem?_cons_zero]; rfl) (by kernel_rfl) (by kernel_rfl) (by kernel_rfl) (by exact fun _ _ _ h => h) (yieldsIf_conv (by rfl) 39 9 (.tmp 107) rfl _ _ rfl XC.out) (by assumption) ?_
    try simp only [Act.put, List.setIfInBounds_toArray, List.set_cons_zero, List.set_cons_succ]
    refine wpAnyH_take (i := 13) (v := ?v13c) (by simp only [List.getElem?_toArray, List.getElem?_cons_succ, List.getElem?_cons_zero]; rfl) (by kernel_rfl) (by kernel_rfl) (by kernel_rfl) (by exact fun _ _ _ h => h) (Or.inl ⟨by rfl, ?h13c⟩) (by assumption) ?_
    case h13c => (intro W hSw; (try dsimp only at hSw); go_simp; try with_reducible rfl)
    try simp only [Act.put, List.setIfInBounds_toArray, List.set_cons_zero, List.set_cons_succ]
    refine wpAnyH_ready (rs := [14]) (by kernel_rfl) (by simp) ?_
    refine AllReadyH.cons (by simp only [List.getElem?_toArray, List.getElem?_cons_succ, List.getElem?_cons_zero]; rfl) (fun K hK => ?_) AllReadyH.nil
    go_simp
    refine (FC.out _ DRB.out).mono ?_
    rintro e w14 ⟨A14, q14, c14, rfl, own14, b14⟩
    have hS14 : Below w12.heap.size w12 w14 := (Below.refl w12.heap.size w12).drew.trans b14
    have FB14 := Lib.hid own14.x.has
    have B14 := Lib.hid hS14
    clear own14 b14
    refine hK _ _ hS14 (fun hH14 => ?_)
    clear hK K
    try simp only [Act.put, List.setIfInBounds_toArray, List.set_cons_zero, List.set_cons_succ]
    refine wpAnyH_ready (rs := [15]) (by kernel_rfl) (by simp) ?_
    refine AllReadyH.cons (by simp only [List.getElem?_toArray, List.getElem?_cons_succ, List.getElem?_cons_zero]; rfl) (fun K hK => ?_) AllReadyH.nil
    refine step_convG (by rfl) 39 9 (.tmp 110) rfl _ _ rfl (conv_str FB14.out) ?_
    refine hK _ _ B14.out (fun hH15 => ?_)
    clear hK K
    try simp only [Act.put, List.setIfInBounds_toArray, List.set_cons_zero, List.set_cons_succ]
    refine wpAnyH_take (i := 16) (by simp only [List.getElem?_toArray, List.getElem?_cons_succ, List.getElem?_cons_zero]; rfl) (by kernel_rfl) (by kernel_rfl) (by kernel_rfl) (by exact fun _ _ _ h => h) (yieldsIf_binO (by rfl) .eql 9 9 (.tmp 108) (.tmp 111) rfl _ _ _ rfl rfl (fun w => guard_eql_str _ _ _ _ w) EQD.out) (by assumption) ?_
    try simp only [Act.put, List.setIfInBounds_toArray, List.set_cons_zero, List.set_cons_succ]
    refine wpAnyH_take (i := 17) (v := ?v17c) (by simp only [List.getElem?_toArray, List.getElem?_cons_succ, List.getElem?_cons_zero]; rfl) (by kernel_rfl) (by kernel_rfl) (by kernel_rfl) (by exact fun _ _ _ h => h) (Or.inl ⟨by rfl, ?h17c⟩) (by assumption) ?_
    case h17c => (intro W hSw; (try dsimp only at hSw); go_simp; try with_reducible rfl)
    try simp only [Act.put, List.setIfInBounds_toArray, List.set_cons_zero, List.set_cons_succ]
    refine wpAnyH_take (i := 18) (v := ?v18c) (by simp only [List.getElem?_toArray, List.getElem?_cons_succ, List.getElem?_cons_zero]; rfl) (by kernel_rfl) (by kernel_rfl) (by kernel_rfl) (by exact fun _ _ _ h => h) (Or.inl ⟨by rfl, ?h18c⟩) (by assumption) ?_
    case h18c => (intro W hSw; (try dsimp only at hSw); go_simp; try with_reducible rfl)
    try simp only [Act.put, List.setIfInBounds_toArray, List.set_cons_zero, List.set_cons_succ]
    refine wpAnyH_take (i := 19) (v := ?v19c) (by simp only [List.getElem?_toArray, List.getElem?_cons_succ, List.getElem?_cons_zero]; rfl) (by kernel_rfl) (by kernel_rfl) (by kernel_rfl) (by exact fun _ _ _ h => h) (Or.inl ⟨by rfl, ?h19c⟩) (by assumption) ?_
    case h19c => (intro W hSw; (try dsimp only at hSw); go_simp; try with_reducible rfl)
    try simp only [Act.put, List.setIfInBounds_toArray, List.set_cons_zero, List.set_cons_succ]
    refine wpAnyH_take (i := 20) (by simp only [List.getElem?_toArray, List.getElem?_cons_succ, List.getElem?_cons_zero]; rfl) (by kernel_rfl) (by kernel_rfl) (by kernel_rfl) (by exact fun _ _ _ h => h) (yieldsIf_conv (by rfl) 39 9 (.tmp 115) rfl _ _ rfl YC.out) (by assumption) ?_
    try simp only [Act.put, List.setIfInBounds_toArray, List.set_cons_zero, List.set_cons_succ]
    refine wpAnyH_take (i := 21) (v := ?v21c) (by simp only [List.getElem?_toArray, List.getElem?_cons_succ, List.getElem?_cons_zero]; rfl) (by kernel_rfl) (by kernel_rfl) (by kernel_rfl) (by exact fun _ _ _ h => h) (Or.inl ⟨by rfl, ?h21c⟩) (by assumption) ?_
    case h21c => (intro W hSw; (try dsimp only at hSw); go_simp; try with_reducible rfl)
    try simp only [Act.put, List.setIfInBounds_toArray, List.set_cons_zero, List.set_cons_succ]
    refine wpAnyH_take (i := 22) (by simp only [List.getElem?_toArray, List.getElem?_cons_succ, List.getElem?_cons_zero]; rfl) (by kernel_rfl) (by kernel_rfl) (by kernel_rfl) (by exact fun _ _ _ h => h) (yieldsIf_binO (by rfl) .eql 9 9 (.tmp 116) (.tmp 117) rfl _ _ _ rfl rfl (fun w => guard_eql_str _ _ _ _ w) EQZ.out) (by assumption) ?_
    try simp only [Act.put, List.setIfInBounds_toArray, List.set_cons_zero, List.set_cons_succ]
    refine wpAnyH_take (i := 23) (v := ?v23c) (by simp only [List.getElem?_toArray, List.getElem?_cons_succ, List.getElem?_cons_zero]; rfl) (by kernel_rfl) (by kernel_rfl) (by kernel_rfl) (by exact fun _ _ _ h => h) (Or.inl ⟨by rfl, ?h23c⟩) (by assumption) ?_
    case h23c => (intro W hSw; (try dsimp only at hSw); go_simp; try with_reducible rfl)
    try simp only [Act.put, List.setIfInBounds_toArray, List.set_cons_zero, List.set_cons_succ]
    refine wpAnyH_take (i := 24) (v := ?v24c) (by simp only [List.getElem?_toArray, List.getElem?_cons_succ, List.getElem?_cons_zero]; rfl) (by kernel_rfl) (by kernel_rfl) (by kernel_rfl) (by exact fun _ _ _ h => h) (Or.inl ⟨by rfl, ?h24c⟩) (by assumption) ?_
    case h24c => (intro W hSw; (try dsimp only at hSw); go_simp; try with_reducible rfl)
    try simp only [Act.put, List.setIfInBounds_toArray, List.set_cons_zero, List.set_cons_succ]
    refine wpAnyH_take (i := 25) (v := ?v25c) (by simp only [List.getElem?_toArray, List.getElem?_cons_succ, List.getElem?_cons_zero]; rfl) (by kernel_rfl) (by kernel_rfl) (by kernel_rfl) (by exact fun _ _ _ h => h) (Or.inl ⟨by rfl, ?h25c⟩) (by assumption) ?_
    case h25c => (intro W hSw; (try dsimp only at hSw); go_simp; try with_reducible rfl)
    try simp only [Act.put, List.setIfInBounds_toArray, List.set_cons_zero, List.set_cons_succ]
    refine wpAnyH_take (i := 26) (by simp only [List.getElem?_toArray, List.getElem?_cons_succ, List.getElem?_cons_zero]; rfl) (by kernel_rfl) (by kernel_rfl) (by kernel_rfl) (by exact fun _ _ _ h => h) (yieldsIf_conv (by rfl) 39 9 (.tmp 121) rfl _ _ rfl ZC.out) (by assumption) ?_
    try simp only [Act.put, List.setIfInBounds_toArray, List.set_cons_zero, List.set_cons_succ]
    refine wpAnyH_take (i := 27) (v := ?v27c) (by simp only [List.getElem?_toArray, List.getElem?_cons_succ, List.getElem?_cons_zero]; rfl) (by kernel_rfl) (by kernel_rfl) (by kernel_rfl) (by exact fun _ _ _ h => h) (Or.inl ⟨by rfl, ?h27c⟩) (by assumption) ?_
    case h27c => (intro W hSw; (try dsimp only at hSw); go_simp; try with_reducible rfl)
    try simp only [Act.put, List.setIfInBounds_toArray, List.set_cons_zero, List.set_cons_succ]
    refine wpAnyH_take (i := 28) (by simp only [List.getElem?_toArray, List.getElem?_cons_succ, List.getElem?_cons_zero]; rfl) (by kernel_rfl) (by kernel_rfl) (by kernel_rfl) (by exact fun _ _ _ h => h) (yieldsIf_binO (by rfl) .eql 9 9 (.tmp 122) (.tmp 123) rfl _ _ _ rfl rfl (fun w => guard_eql_str _ _ _ _ w) EQZ.out) (by assumption) ?_
    try simp only [Act.put, List.setIfInBounds_toArray, List.set_cons_zero, List.set_cons_succ]
    refine wpAnyH_take (i := 29) (v := ?v29c) (by simp only [List.getElem?_toArray, List.getElem?_cons_succ, List.getElem?_cons_zero]; rfl) (by kernel_rfl) (by kernel_rfl) (by kernel_rfl) (by exact fun _ _ _ h => h) (Or.inl ⟨by rfl, ?h29c⟩) (by assumption) ?_
    case h29c => (intro W hSw; (try dsimp only at hSw); go_simp; try with_reducible rfl)
    try simp only [Act.put, List.setIfInBounds_toArray, List.set_cons_zero, List.set_cons_succ]
    refine wpAnyH_take (i := 30) (v := ?v30c) (by simp only [List.getElem?_toArray, List.getElem?_cons_succ, List.getElem?_cons_zero]; rfl) (by kernel_rfl) (by kernel_rfl) (by kernel_rfl) (by exact fun _ _ _ h => h) (Or.inl ⟨by rfl, ?h30c⟩) (by assumption) ?_
    case h30c => (intro W hSw; (try dsimp only at hSw); go_simp; try with_reducible rfl)
    try simp only [Act.put, List.setIfInBounds_toArray, List.set_cons_zero, List.set_cons_succ]
    refine wpAnyH_take (i := 31) (v := ?v31c) (by simp only [List.getElem?_toArray, List.getElem?_cons_succ, List.getElem?_cons_zero]; rfl) (by kernel_rfl) (by kernel_rfl) (by kernel_rfl) (by exact fun _ _ _ h => h) (Or.inl ⟨by rfl, ?h31c⟩) (by assumption) ?_
    case h31c => (intro W hSw; (try dsimp only at hSw); go_simp; try with_reducible rfl)
    try simp only [Act.put, List.setIfInBounds_toArray, List.set_cons_zero, List.set_cons_succ]
    refine wpAnyH_take (i := 32) (by simp only [List.getElem?_toArray, List.getElem?_cons_succ, List.getElem?_cons_zero]; rfl) (by kernel_rfl) (by kernel_rfl) (by kernel_rfl) (by exact fun _ _ _ h => h) (yieldsIf_conv (by rfl) 39 9 (.tmp 127) rfl _ _ rfl WC.out) (by assumption) ?_
    try simp only [Act.put, List.setIfInBounds_toArray, List.set_cons_zero, List.set_cons_succ]
    refine wpAnyH_take (i := 33) (v := ?v33c) (by simp only [List.getElem?_toArray, List.getElem?_cons_succ, List.getElem?_cons_zero]; rfl) (by kernel_rfl) (by kernel_rfl) (by kernel_rfl) (by exact fun _ _ _ h => h) (Or.inl ⟨by rfl, ?h33c⟩) (by assumption) ?_
    case h33c => (intro W hSw; (try dsimp only at hSw); go_simp; try with_reducible rfl)
    try simp only [Act.put, List.setIfInBounds_toArray, List.set_cons_zero, List.set_cons_succ]
    refine wpAnyH_take (i := 34) (by simp only [List.getElem?_toArray, List.getElem?_cons_succ, List.getElem?_cons_zero]; rfl) (by kernel_rfl) (by kernel_rfl) (by kernel_rfl) (by exact fun _ _ _ h => h) (yieldsIf_conv (by rfl) 39 9 (.tmp 129) rfl _ _ rfl XC.out) (by assumption) ?_
    try simp only [Act.put, List.setIfInBounds_toArray, List.set_cons_zero, List.set_cons_succ]
    refine wpAnyH_take (i := 35) (by simp only [List.getElem?_toArray, List.getElem?_cons_succ, List.getElem?_cons_zero]; rfl) (by kernel_rfl) (by kernel_rfl) (by kernel_rfl) (by exact fun _ _ _ h => h) (yieldsIf_binO (by rfl) .eql 9 9 (.tmp 128) (.tmp 130) rfl _ _ _ rfl rfl (fun w => guard_eql_str _ _ _ _ w) EQD.out) (by assumption) ?_
    try simp only [Act.put, List.setIfInBounds_toArray, List.set_cons_zero, List.set_cons_succ]
    refine wpAnyH_take (i := 36) (v := ?v36c) (by simp only [List.getElem?_toArray, List.getElem?_cons_succ, List.getElem?_cons_zero]; rfl) (by kernel_rfl) (by kernel_rfl) (by kernel_rfl) (by exact fun _ _ _ h => h) (Or.inl ⟨by rfl, ?h36c⟩) (by assumption) ?_
    case h36c => (intro W hSw; (try dsimp only at hSw); go_simp; try with_reducible rfl)
    try simp only [Act.put, List.setIfInBounds_toArray, List.set_cons_zero, List.set_cons_succ]
    refine wpAnyH_take (i := 37) (v := ?v37c) (by simp only [List.getElem?_toArray, List.getElem?_cons_succ, List.getElem?_cons_zero]; rfl) (by kernel_rfl) (by kernel_rfl) (by kernel_rfl) (by exact fun _ _ _ h => h) (Or.inl ⟨by rfl, ?h37c⟩) (by assumption) ?_
    case h37c => (intro W hSw; (try dsimp only at hSw); go_simp; try with_reducible rfl)
    try simp only [Act.put, List.setIfInBounds_toArray, List.set_cons_zero, List.set_cons_succ]
    refine wpAnyH_take (i := 38) (v := undef) (by simp only [List.getElem?_toArray, List.getElem?_cons_succ, List.getElem?_cons_zero]; rfl) (by kernel_rfl) (by kernel_rfl) (by kernel_rfl) (by exact fun _ _ _ h => h) (Or.inr ⟨by rfl, rfl⟩) (by assumption) ?_
    try simp only [Act.put, List.setIfInBounds_toArray, List.set_cons_zero, List.set_cons_succ]
    refine wpAnyH_take (i := 39) (v := undef) (by simp only [List.getElem?_toArray, List.getElem?_cons_succ, List.getElem?_cons_zero]; rfl) (by kernel_rfl) (by kernel_rfl) (by kernel_rfl) (by exact fun _ _ _ h => h) (Or.inr ⟨by rfl, rfl⟩) (by assumption) ?_
    try simp only [Act.put, List.setIfInBounds_toArray, List.set_cons_zero, List.set_cons_succ]
    refine wpAnyH_take (i := 40) (v := undef) (by simp only [List.getElem?_toArray, List.getElem?_cons_succ, List.getElem?_cons_zero]; rfl) (by kernel_rfl) (by kernel_rfl) (by kernel_rfl) (by exact fun _ _ _ h => h) (Or.inr ⟨by rfl, rfl⟩) (by assumption) ?_
    try simp only [Act.put, List.setIfInBounds_toArray, List.set_cons_zero, List.set_cons_succ]
    refine wpAnyH_take (i := 41) (v := undef) (by simp only [List.getElem?_toArray, List.getElem?_cons_succ, List.getElem?_cons_zero]; rfl) (by kernel_rfl) (by kernel_rfl) (by kernel_rfl) (by exact fun _ _ _ h => h) (Or.inr ⟨by rfl, rfl⟩) (by assumption) ?_
    try simp only [Act.put, List.setIfInBounds_toArray, List.set_cons_zero, List.set_cons_succ]
    refine wpAnyH_take (i := 42) (v := ?v42c) (by simp only [List.getElem?_toArray, List.getElem?_cons_succ, List.getElem?_cons_zero]; rfl) (by kernel_rfl) (by kernel_rfl) (by kernel_rfl) (by exact fun _ _ _ h => h) (Or.inl ⟨by rfl, ?h42c⟩) (by assumption) ?_
    case h42c => (intro W hSw; (try dsimp only at hSw); go_simp; try with_reducible rfl)
    try simp only [Act.put, List.setIfInBounds_toArray, List.set_cons_zero, List.set_cons_succ]
    refine wpAnyH_take (i := 43) (v := ?v43c) (by simp only [List.getElem?_toArray, List.getElem?_cons_succ, List.getElem?_cons_zero]; rfl) (by kernel_rfl) (by kernel_rfl) (by kernel_rfl) (by exact fun _ _ _ h => h) (Or.inl ⟨by rfl, ?h43c⟩) (by assumption) ?_
    case h43c => (intro W hSw; (try dsimp only at hSw); go_simp; try with_reducible rfl)
    try simp only [Act.put, List.setIfInBounds_toArray, List.set_cons_zero, List.set_cons_succ]
    refine wpAnyH_take (i := 44) (v := ?v44c) (by simp only [List.getElem?_toArray, List.getElem?_cons_succ, List.getElem?_cons_zero]; rfl) (by kernel_rfl) (by kernel_rfl) (by kernel_rfl) (by exact fun _ _ _ h => h) (Or.inl ⟨by rfl, ?h44c⟩) (by assumption) ?_
    case h44c => (intro W hSw; (try dsimp only at hSw); go_simp; try with_reducible rfl)
    try simp only [Act.put, List.setIfInBounds_toArray, List.set_cons_zero, List.set_cons_succ]
    refine wpAnyH_take (i := 45) (v := ?v45c) (by simp only [List.getElem?_toArray, List.getElem?_cons_succ, List.getElem?_cons_zero]; rfl) (by kernel_rfl) (by kernel_rfl) (by kernel_rfl) (by exact fun _ _ _ h => h) (Or.inl ⟨by rfl, ?h45c⟩) (by assumption) ?_
    case h45c => (intro W hSw; (try dsimp only at hSw); go_simp; try with_reducible rfl)
    try simp only [Act.put, List.setIfInBounds_toArray, List.set_cons_zero, List.set_cons_succ]
    refine wpAnyH_done (by kernel_rfl) ?_ _
    try simp only [Act.put, List.setIfInBounds_toArray, List.set_cons_zero, List.set_cons_succ]
    go_wp2_with fail
    go_ret
    exact ⟨rfl, BL12.out.trans (B14.out.mono BL12.out.size)⟩
end Go.Proofs.Ythfmkdeglceppaa
