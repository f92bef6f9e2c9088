/-
  Own work. DiskTorn walked over a disk by its contracts.
-/
import Derived.Test.YtpnmcdpekfibjaaDt0
import Derived.Deep.DeepCutAuto
import Derived.Lib.SmallJoins
namespace Go.Proofs.Ytpnmcdpekfibjaa
open Go.RowKit
set_option linter.unusedVariables false
set_option linter.unusedSimpArgs false

theorem yieldsIf_binG {P : Program} {ops : Array Oper} {o : Oper} {a : Act} {S : World → Prop} (hw : Region.wanted o (yielded ops a.tmps) = true) (b : BinOp) (t u : TypeId) (x y : Operand) (ho : o.op = .binOp b t x y u) (X Y V : Value) (hx : a.eval x = X) (hy : a.eval y = Y)
    (hg : ∀ w, (eqGuard b t x y X Y).run P w = .ok () w) (hb : ∀ w, (binOp b t X Y).run P w = .ok V w) : YieldsIf P ops S o V a := by
  refine Or.inl ⟨hw, fun w hS => ?_⟩
  unfold execOp
  simp only [ho, hx, hy, Sem.run_bind, Sem.run_pure, Result.andThen_ok, hg, hb]
theorem guard_add (s t : Value) (x y : Operand) (w : World) : (eqGuard .add 9 x y s t).run Try.prog w = .ok () w := by
  unfold eqGuard
  simp
theorem add_str (a b : List UInt8) (h : a.length + b.length ≤ 1024) (w : World) : (binOp .add 9 (.string ⟨a.toArray⟩) (.string ⟨b.toArray⟩)).run Try.prog w = .ok (.string ⟨(a ++ b).toArray⟩) w := by
  have h' : ¬ 9223372036854775807 < a.length + b.length := by omega
  go_simp
  apply ByteArray.ext
  simp [ByteArray.data_append]
theorem eql_self (a : List UInt8) (w : World) : (binOp .eql 9 (.string ⟨a.toArray⟩) (.string ⟨a.toArray⟩)).run Try.prog w = .ok (.bool true) w := by
  rw [eql_str, decide_eq_true rfl]
theorem wpList_min2 {P : Program} {ops : Array Oper} {rest : List Oper} {o : Oper} {a : Act} {w : World} {Q : Exit → Act → World → Prop} (hw : Region.wanted o (yielded ops a.tmps) = true) (x y : Operand) {ts : Array TypeId}
    (ho : o.op = .call { callee := .builtin .min, args := #[x, y], argTypes := ts }) (X Y V : Int) (hx : a.eval x = .int .i64 X) (hy : a.eval y = .int .i64 Y) (hv : (if Y < X then Y else X) = V)
    (h : wpList P ops Q rest (a.put o.dst (.int .i64 V)) w) : wpList P ops Q (o :: rest) a w := by
  refine BigFrame.wpList_want hw fun K hK => ?_
  unfold Oper.wp execOp
  simp only [ho, resolve, invoke, builtin, Sem.run_bind, Sem.run_pure, Result.andThen_ok, List.map_toArray, List.map_cons, List.map_nil, hx, hy, run_min_int2, hv]
  exact hK _ _ h
theorem wpList_max2 {P : Program} {ops : Array Oper} {rest : List Oper} {o : Oper} {a : Act} {w : World} {Q : Exit → Act → World → Prop} (hw : Region.wanted o (yielded ops a.tmps) = true) (x y : Operand) {ts : Array TypeId}
    (ho : o.op = .call { callee := .builtin .max, args := #[x, y], argTypes := ts }) (X Y V : Int) (hx : a.eval x = .int .i64 X) (hy : a.eval y = .int .i64 Y) (hv : (if Y > X then Y else X) = V)
    (h : wpList P ops Q rest (a.put o.dst (.int .i64 V)) w) : wpList P ops Q (o :: rest) a w := by
  refine BigFrame.wpList_want hw fun K hK => ?_
  unfold Oper.wp execOp
  simp only [ho, resolve, invoke, builtin, Sem.run_bind, Sem.run_pure, Result.andThen_ok, List.map_toArray, List.map_cons, List.map_nil, hx, hy, run_max_int2, hv]
  exact hK _ _ h
theorem hasNo_one (w : World) (k : Bool) (t : TypeId) (S : Nat → Prop) (hS : ∀ k, S k → k < w.heap.size) : HasNo (w.alloc (.cells #[.bool k] t)) S (some ⟨w.heap.size, 0, none⟩) 1 [k] := by
  refine ⟨rfl, fun _ => ⟨w.heap.size, 0, rfl, ?_, fun h => absurd (hS _ h) (by omega), fun i b hi => ?_⟩⟩
  · simp
  · rw [cell_of_row _ _ _ _ _ _ (heap_alloc_new w _)]
    have : i = 0 := by have := (List.getElem?_eq_some_iff.1 hi).1; simpa using this
    subst this
    simp at hi
    subst hi
    rfl
/-- What lies beneath, as bytes. -/
def tBaseL (waits keep : Bool) (a : List UInt8) : List UInt8 := if waits = true ∧ keep = false then fullL [] else fullL a
theorem tBaseL_eq (waits keep : Bool) (a : List UInt8) : tBase waits keep (strB (fullL a)) = strB (tBaseL waits keep a) ∧ (tBaseL waits keep a).length = 512 := by
  unfold tBase tBaseL
  split
  · exact ⟨zero_full.symm, fullL_len _⟩
  · exact ⟨rfl, fullL_len _⟩
/-- What the disk's operations do on the way. -/
structure TornC (Z : DK) (waits keep : Bool) (j : Nat) (a b : List UInt8) (p : Int) (q : Nat) : Prop where
  w1 : ∀ W g S A n c, Z.D W g S 32 (newM 32) → HasN W S A n (fullL a) → n ≤ c → n ≤ 1073741824 → Calls Try.prog 23 #[.pointer (some ⟨g, 0, none⟩), .int .i64 (j : Int), .slice A n c] W (Left2 Z.D W g S 32 (.int .i64 0) (tM1 j (strB (fullL a))))
  fl : ∀ W g S, Z.D W g S 32 (tM1 j (strB (fullL a))) → Calls Try.prog 24 #[.pointer (some ⟨g, 0, none⟩)] W (Left2 Z.D W g S 32 (.int .i64 0) (tM2 false j (strB (fullL a))))
  arm : ∀ W g S, Z.D W g S 32 (tM2 waits j (strB (fullL a))) → Calls Try.prog 25 #[.pointer (some ⟨g, 0, none⟩), .int .i64 0, .int .i64 p] W (Left2 Z.D W g S 32 (.tuple #[]) (tM3 waits j (strB (fullL a)) p))
  w2 : ∀ W g S A n c, Z.D W g S 32 (tM3 waits j (strB (fullL a)) p) → HasN W S A n (fullL b) → n ≤ c → n ≤ 1073741824 → Calls Try.prog 23 #[.pointer (some ⟨g, 0, none⟩), .int .i64 (j : Int), .slice A n c] W (Left2 Z.D W g S 32 (.int .i64 8) (tM4 waits j (strB (fullL a)) (strB (fullL b)) p))
  dead : ∀ W g S, Z.D W g S 32 (tM4 waits j (strB (fullL a)) (strB (fullL b)) p) → Calls Try.prog 21 #[.pointer (some ⟨g, 0, none⟩)] W fun e w' => e = .returned (.bool true) ∧ Below W.heap.size W w'
  power : ∀ W g S A n c, Z.D W g S 32 (tM4 waits j (strB (fullL a)) (strB (fullL b)) p) → HasNo W S A n [keep] → n ≤ c → n ≤ 1073741824 → Calls Try.prog 16 #[.pointer (some ⟨g, 0, none⟩), .slice A n c] W (Left2 Z.D W g S 32 (.tuple #[]) (tM5 waits keep j (strB (fullL a)) (strB (fullL b)) p))
  read : ∀ W g S, Z.D W g S 32 (tM5 waits keep j (strB (fullL a)) (strB (fullL b)) p) → Calls Try.prog 18 #[.pointer (some ⟨g, 0, none⟩), .int .i64 (j : Int)] W (RetXE W ((fullL b).take q ++ (tBaseL waits keep a).drop q) 0)
  wait : ∀ W g S, Z.D W g S 32 (tM5 waits keep j (strB (fullL a)) (strB (fullL b)) p) → Calls Try.prog 22 #[.pointer (some ⟨g, 0, none⟩)] W (RetI W [])
  lives : ∀ W g S, Z.D W g S 32 (tM5 waits keep j (strB (fullL a)) (strB (fullL b)) p) → Calls Try.prog 26 #[.pointer (some ⟨g, 0, none⟩)] W fun e w' => e = .returned (.int .i64 1) ∧ Below W.heap.size W w'
theorem torn_cs (Z : DK) (waits keep : Bool) (j : Nat) (a b : List UInt8) (p : Int) (q : Nat) (hj : j < 32) (hq : (clampP p).toNat = q) (hp : -9223372036854775808 ≤ p ∧ p ≤ 9223372036854775807) : TornC Z waits keep j a b p q := by
  have hX : (strB (fullL a)).size = 512 := by rw [strB_size, fullL_len]
  have hY : (strB (fullL b)).size = 512 := by rw [strB_size, fullL_len]
  have hq2 : q ≤ 512 := by rw [← hq]; unfold clampP; split <;> (try split) <;> omega
  have okN := newM_ok 32 (by omega) (by omega)
  have ok1 := tM1_ok (X := strB (fullL a)) hj
  have ok2 := tM2_ok (waits := waits) (X := strB (fullL a)) hj
  have ok3 := tM3_ok (waits := waits) (X := strB (fullL a)) (p := p) hj
  have ok4 := tM4_ok (waits := waits) (Y := strB (fullL b)) (p := p) hj hX
  have ok5 := tM5_ok (waits := waits) (keep := keep) (p := p) hj hX hY
  have e4 := tM4_eq (waits := waits) (p := p) hj hX hY
  have at1 := tM1_at (X := strB (fullL a)) hj hX
  have at2 := tM2_at (waits := waits) (X := strB (fullL a)) hj hX
  have at5 := tM5_at (waits := waits) (keep := keep) (p := p) hj hX hY
  refine ⟨fun W g S A n c d hn h1 h2 => ?_, fun W g S d => ?_, fun W g S d => Z.arm_any 0 p d ok2 (by omega) hp, fun W g S A n c d hn h1 h2 => ?_, fun W g S d => ?_, fun W g S A n c d hn h1 h2 => ?_, fun W g S d => ?_, fun W g S d => ?_, fun W g S d => ?_⟩
  · have := Z.write_any (j : Int) A n c (fullL a) d okN (by show 0 < 1073741824; omega) (by omega) hn h1 h2
    rwa [(tM1_eq hj hX).1] at this
  · have := Z.flush_any d ok1
    rwa [((tM1 j (strB (fullL a))).flush_ok 32 at1.2.2.2.1 (by rw [at1.2.2.2.2.1]; omega)).1] at this
  · have := Z.write_any (j : Int) A n c (fullL b) d ok3 (by show (tM2 waits j (strB (fullL a))).wrote < _; rw [at2.2.2.2.2.2.2]; omega) (by omega) hn h1 h2
    rwa [e4.1] at this
  · have := Z.dead_any d ok4
    rwa [show (tM4 waits j (strB (fullL a)) (strB (fullL b)) p).off = true by rw [e4.2]] at this
  · exact Z.power_any A n c [keep] d ok4 (by rw [e4.2]; show (tM2 waits j (strB (fullL a))).powers < _; rw [at2.2.2.2.2.2.1]; omega) hn h1 h2
  · have := Z.read_any (j : Int) d ok5 (by omega)
    rw [at5.1, at5.2.1, (tBaseL_eq waits keep a).1, hq, torn_bytes _ _ q (fullL_len b) (tBaseL_eq waits keep a).2 hq2] at this
    exact this
  · have := Z.waiting_any d ok5
    rwa [at5.2.2.1] at this
  · have := Z.lives_any d ok5
    rw [at5.2.2.2] at this
    exact this

set_option maxRecDepth 100000 in
set_option maxHeartbeats 40000000 in
theorem torn_law (Z : DK) (z p : Int) (A : Option Addr) (n c : Nat) (a : List UInt8) (A' : Option Addr) (n' c' : Nat) (b : List UInt8) (waits keep : Bool) (w : World) (hz : -9223372036854775808 ≤ z ∧ z ≤ 9223372036854775807) (hp : -9223372036854775808 ≤ p ∧ p ≤ 9223372036854775807)
    (h1 : HasB w w.heap.size A n a) (hc : n ≤ c) (hcm : c ≤ maxLen) (h2 : HasB w w.heap.size A' n' b) (hc' : n' ≤ c') (hcm' : c' ≤ maxLen) :
    Calls Try.prog 6 #[.int .i64 z, .int .i64 p, .slice A n c, .slice A' n' c', .bool waits, .bool keep] w (RetTrue w) := by
  unfold maxLen at hcm hcm'
  have H1 := Lib.hid h1
  have H2 := Lib.hid h2
  have HZ := Lib.hid hz
  have HP := Lib.hid hp
  clear h1 h2 hz hp
  by_cases hbig : 512 < n ∨ 512 < n'
  · by_cases hb1 : 512 < n
    · clear hbig
      go_enter Try.func6, Try.ntmps6
      go_wp2_with (go_at_call 9; refine (begun5_any Z _).mono ?_; rintro e w1 ⟨rfl, b1⟩)
      go_ret
      exact ⟨rfl, b1⟩
    · have hb2 : 512 < n' := by omega
      clear hbig
      go_enter Try.func6, Try.ntmps6
      go_wp2_with (go_at_call 9; refine (begun5_any Z _).mono ?_; rintro e w1 ⟨rfl, b1⟩)
      go_ret
      exact ⟨rfl, b1⟩
  · have hb1 : ¬ 512 < n := by omega
    have hb2 : ¬ 512 < n' := by omega
    clear hbig
    obtain ⟨q, hq⟩ : ∃ q, (clampP p).toNat = q := ⟨_, rfl⟩
    obtain ⟨u, hu⟩ : ∃ u, (if (512 : Int) < p then 512 else p) = u := ⟨_, rfl⟩
    have HV : Hid ((if u > (0 : Int) then u else 0) = (q : Int)) := Lib.hid (by rw [← hq, ← hu]; unfold clampP; repeat' split; all_goals omega)
    have HU := Lib.hid hu
    have HQ512 : Hid (q ≤ 512) := Lib.hid (by rw [← hq]; unfold clampP; repeat' split; all_goals omega)
    have HQ := Lib.hid hq
    have CN : Hid (∀ W, Calls Try.prog 11 #[.int .i64 32] W fun e w' => ∃ g S, e = .returned (.pointer (some ⟨g, 0, none⟩)) ∧ Z.D w' g S 32 (newM 32) ∧ (∀ k, S k → W.heap.size ≤ k) ∧ Below W.heap.size W w') := Lib.hid (fun W => Z.new_any W 32 (by omega) (by omega))
    clear hq hu
    cases waits with
    | false =>
      go_enter Try.func6, Try.ntmps6
      go_upto_region 19 with (first
        | (go_at_call 9; refine (begun5_any Z _).mono ?_; rintro e w1 ⟨rfl, b1⟩
           have B1 := Lib.hid b1
           clear b1)
        | (go_at_call 11; refine (CN.out _).mono ?_; rintro e w2 ⟨g, S2, rfl, d2, s2, b2⟩
           have D2 : Hid (OwD Z w w2 g S2 32 (newM 32)) := Lib.hid ⟨d2, fun k hk => Nat.le_trans B1.out.size (s2 k hk), B1.out.trans (b2.mono B1.out.size)⟩
           clear d2 s2 b2 B1)
        | (go_at_call 10; refine (place_any z 32 _ HZ.out (by omega) (by omega)).mono ?_; rintro e w2' ⟨⟨j, hj, rfl⟩, rfl⟩
           have TC := Lib.hid (torn_cs Z false keep j a b p q hj HQ.out HP.out)
           clear hj)
        | (go_at_call 20; refine (full_any A n c a _ w.heap.size (H1.out.below D7.out.bel) D7.out.bel.size).mono ?_; rintro e w8 ⟨A8, n8, c8, rfl, own8, b8⟩
           have D8 := Lib.hid (D7.out.below b8)
           have O8 := Lib.hid own8
           clear own8 b8)
        | (go_at_call 20; refine (full_any A' n' c' b _ w.heap.size (H2.out.below D5.out.bel) D5.out.bel.size).mono ?_; rintro e w51 ⟨A51, n51, c51, rfl, own51, b51⟩
           have D51 := Lib.hid (D5.out.below b51)
           have N51 := Lib.hid (own51.outside D5.out.slt)
           have hn51 := own51.len
           rw [fullL_len] at hn51
           subst hn51
           have cp51 := own51.caps.1
           clear own51 b51)
        | (go_at_call 20; refine (full_any A n c a _ w.heap.size (H1.out.below D2.out.bel) D2.out.bel.size).mono ?_; rintro e w21 ⟨A21, n21, c21, rfl, own21, b21⟩
           have D21 := Lib.hid (D2.out.below b21)
           have N21 := Lib.hid (own21.outside D2.out.slt)
           have hn21 := own21.len
           rw [fullL_len] at hn21
           subst hn21
           have cp21 := own21.caps.1
           clear own21 b21)
        | (go_at_call 23; refine (TC.out.w2 _ _ _ _ _ _ D51.out.d N51.out cp51 (by omega)).mono ?_; rintro e w6 L6
           obtain ⟨S6, D6⟩ := D51.out.step L6
           obtain ⟨rfl, _, _⟩ := L6
           have D6 := Lib.hid D6)
        | (go_at_call 23; refine (TC.out.w1 _ _ _ _ _ _ D21.out.d N21.out cp21 (by omega)).mono ?_; rintro e w3 L3
           obtain ⟨S3, D3⟩ := D21.out.step L3
           obtain ⟨rfl, _, _⟩ := L3
           have D3 := Lib.hid D3)
        | (go_at_call 24; refine (TC.out.fl _ _ _ D3.out.d).mono ?_; rintro e w4 L4
           obtain ⟨S4, D4⟩ := D3.out.step L4
           obtain ⟨rfl, _, _⟩ := L4
           have D4 := Lib.hid D4)
        | (go_at_call 25; refine (TC.out.arm _ _ _ D4.out.d).mono ?_; rintro e w5 L5
           obtain ⟨S5, D5⟩ := D4.out.step L5
           obtain ⟨rfl, _, _⟩ := L5
           have D5 := Lib.hid D5)
        | (go_at_call 21; refine (TC.out.dead _ _ _ D6.out.d).mono ?_; rintro e w61 ⟨rfl, b61⟩
           have D61 := Lib.hid (D6.out.below b61)
           have D62 := Lib.hid (D61.out.alloc (.cells #[.bool keep] 4))
           have N62 := Lib.hid (hasNo_one w61 keep 4 S6 D61.out.slt)
           clear b61)
        | (go_at_call 16; refine (TC.out.power _ _ _ _ _ _ D62.out.d N62.out (by omega) (by omega)).mono ?_; rintro e w7 L7
           obtain ⟨S7, D7⟩ := D62.out.step L7
           obtain ⟨rfl, _, _⟩ := L7
           have D7 := Lib.hid D7)
        | (refine wpList_min2 rfl (.tmp 58) (.const (.int .i64 512)) rfl p 512 u rfl rfl HU.out ?_)
        | (refine wpList_max2 rfl (.const (.int .i64 0)) (.tmp 59) rfl 0 u (q : Int) rfl rfl HV.out ?_)
        | (go_at_call 18; refine (TC.out.read _ _ _ D8.out.d).mono ?_; rintro e w9 ⟨A9, n9, c9, rfl, own9, b9⟩
           have D9 := Lib.hid (D8.out.below b9)
           have O9 := Lib.hid own9
           have O89 := Lib.hid (O8.out.below b9)
           clear own9 b9))
      have B9 := Lib.hid D9.out.bel
      have hn8 := O89.out.len
      rw [fullL_len] at hn8
      subst hn8
      have cp8 := O89.out.caps.1
      obtain ⟨g8, rfl, _, _⟩ := O89.out.head (by omega)
      obtain ⟨FB, hFB⟩ : ∃ l, fullL b = l := ⟨_, rfl⟩
      obtain ⟨FC, hFC⟩ : ∃ l, fullL a = l := ⟨_, rfl⟩
      have HC : Hid (∀ W, Below w9.heap.size w9 W → (convert 29 9 (.slice A9 n9 c9)).run Try.prog W = .ok (.string ⟨(FB.take q ++ FC.drop q).toArray⟩) W) := Lib.hid (fun W hW => by
        have := run_conv (P := Try.prog) Try.underlying29 Try.underlying5 Try.underlying9 _ A9 n9 c9 _ (O9.out.below hW).has
        rw [← hFB, ← hFC]
        exact this)
      have HD : Hid (∀ W, Below w9.heap.size w9 W → ∀ A2 m c2, (∀ _ : q < 512, A2 = some ⟨g8, q, none⟩) → m = 512 - q → (convert 29 9 (.slice A2 m c2)).run Try.prog W = .ok (.string ⟨(FC.drop q).toArray⟩) W) := Lib.hid (fun W hW A2 m c2 hA hm => by
        have h1 := (O89.out.below hW).has
        rw [hFC] at h1
        have h2 := h1.window (A' := A2) (k := q) (s := 512 - q) (by have := HQ512.out; omega) hm (fun hp => by rw [hA (by omega), Nat.zero_add])
        rw [List.take_of_length_le (by rw [List.length_drop, ← hFC, fullL_len]; omega)] at h2
        exact run_conv (P := Try.prog) Try.underlying29 Try.underlying5 Try.underlying9 _ _ _ c2 _ h2)
      have HE : Hid (∀ W base g6 c6, OwnB W base (.slice (some ⟨g6, 0, none⟩) 512 c6) (fullL b) → ∀ m, m = q → (convert 29 9 (.slice (some ⟨g6, 0, none⟩) m c6)).run Try.prog W = .ok (.string ⟨(FB.take q).toArray⟩) W) := Lib.hid (fun W base g6 c6 h m hm => by
        have h1 := h.has
        rw [hFB] at h1
        have h2 := h1.window (k := 0) (s := q) (by have := HQ512.out; omega) hm (fun _ => rfl)
        rw [List.drop_zero] at h2
        exact run_conv (P := Try.prog) Try.underlying29 Try.underlying5 Try.underlying9 _ _ _ c6 _ h2)
      have CT := Lib.hid (fun W (hW : Below w9.heap.size w9 W) => TC.out.wait W _ _ (D9.out.below hW).d)
      have CV := Lib.hid (fun W (hW : Below w9.heap.size w9 W) => TC.out.lives W _ _ (D9.out.below hW).d)
      have HAD : Hid ((FB.take q).length + (FC.drop q).length ≤ 1024) := Lib.hid (by rw [List.length_take, List.length_drop, ← hFB, ← hFC, fullL_len, fullL_len]; omega)
      have q512 := HQ512.out
      clear hFB hFC
      refine wp_region_held_drew (S := fun W => Below w9.heap.size w9 W) (by kernel_rfl) (Below.refl _ _).drew (fun hHeld => ?_)
      refine wpAnyH_take (i := 0) (v := ?v0a) (by simp only [List.getElem?_toArray, List.getElem?_cons_succ, List.getElem?_cons_zero]; rfl) (by kernel_rfl) (by kernel_rfl) (by kernel_rfl) (by exact fun _ _ _ h => h) (Or.inl ⟨by rfl, ?h0a⟩) (by assumption) ?_
      case h0a => (intro W hSw; (try dsimp only at hSw); go_simp; try with_reducible rfl)
      try simp only [Act.put, List.setIfInBounds_toArray, List.set_cons_zero, List.set_cons_succ]
      refine wpAnyH_take (i := 1) (v := ?v1a) (by simp only [List.getElem?_toArray, List.getElem?_cons_succ, List.getElem?_cons_zero]; rfl) (by kernel_rfl) (by kernel_rfl) (by kernel_rfl) (by exact fun _ _ _ h => h) (Or.inl ⟨by rfl, ?h1a⟩) (by assumption) ?_
      case h1a => (intro W hSw; (try dsimp only at hSw); go_simp; try with_reducible rfl)
      try simp only [Act.put, List.setIfInBounds_toArray, List.set_cons_zero, List.set_cons_succ]
      refine wpAnyH_take (i := 2) (v := ?v2a) (by simp only [List.getElem?_toArray, List.getElem?_cons_succ, List.getElem?_cons_zero]; rfl) (by kernel_rfl) (by kernel_rfl) (by kernel_rfl) (by exact fun _ _ _ h => h) (Or.inl ⟨by rfl, ?h2a⟩) (by assumption) ?_
      case h2a => (intro W hSw; (try dsimp only at hSw); go_simp; try with_reducible rfl)
      try simp only [Act.put, List.setIfInBounds_toArray, List.set_cons_zero, List.set_cons_succ]
      refine wpAnyH_take (i := 3) (v := ?v3a) (by simp only [List.getElem?_toArray, List.getElem?_cons_succ, List.getElem?_cons_zero]; rfl) (by kernel_rfl) (by kernel_rfl) (by kernel_rfl) (by exact fun _ _ _ h => h) (Or.inl ⟨by rfl, ?h3a⟩) (by assumption) ?_
      case h3a => (intro W hSw; (try dsimp only at hSw); go_simp; try with_reducible rfl)
      try simp only [Act.put, List.setIfInBounds_toArray, List.set_cons_zero, List.set_cons_succ]
      refine wpAnyH_take (i := 4) (by simp only [List.getElem?_toArray, List.getElem?_cons_succ, List.getElem?_cons_zero]; rfl) (by kernel_rfl) (by kernel_rfl) (by kernel_rfl) (by exact fun _ _ _ h => h) (yieldsIf_conv (by rfl) 29 9 (.tmp 78) rfl _ (.string ⟨(FB.take q ++ FC.drop q).toArray⟩) rfl (fun W hS => HC.out W hS)) (by assumption) ?_
      try simp only [Act.put, List.setIfInBounds_toArray, List.set_cons_zero, List.set_cons_succ]
      refine wpAnyH_take (i := 5) (v := ?v5a) (by simp only [List.getElem?_toArray, List.getElem?_cons_succ, List.getElem?_cons_zero]; rfl) (by kernel_rfl) (by kernel_rfl) (by kernel_rfl) (by exact fun _ _ _ h => h) (Or.inl ⟨by rfl, ?h5a⟩) (by assumption) ?_
      case h5a => (intro W hSw; (try dsimp only at hSw); go_simp; try with_reducible rfl)
      try simp only [Act.put, List.setIfInBounds_toArray, List.set_cons_zero, List.set_cons_succ]
      refine wpAnyH_take (i := 7) (v := ?v7a) (by simp only [List.getElem?_toArray, List.getElem?_cons_succ, List.getElem?_cons_zero]; rfl) (by kernel_rfl) (by kernel_rfl) (by kernel_rfl) (by exact fun _ _ _ h => h) (Or.inl ⟨by rfl, ?h7a⟩) (by assumption) ?_
      case h7a => (intro W hSw; (try dsimp only at hSw); go_simp; try with_reducible rfl)
      try simp only [Act.put, List.setIfInBounds_toArray, List.set_cons_zero, List.set_cons_succ]
      refine wpAnyH_take (i := 10) (v := ?v10a) (by simp only [List.getElem?_toArray, List.getElem?_cons_succ, List.getElem?_cons_zero]; rfl) (by kernel_rfl) (by kernel_rfl) (by kernel_rfl) (by exact fun _ _ _ h => h) (Or.inl ⟨by rfl, ?h10a⟩) (by assumption) ?_
      case h10a => (intro W hSw; (try dsimp only at hSw); go_simp; try with_reducible rfl)
      try simp only [Act.put, List.setIfInBounds_toArray, List.set_cons_zero, List.set_cons_succ]
      refine wpAnyH_take (i := 11) (v := ?v11a) (by simp only [List.getElem?_toArray, List.getElem?_cons_succ, List.getElem?_cons_zero]; rfl) (by kernel_rfl) (by kernel_rfl) (by kernel_rfl) (by exact fun _ _ _ h => h) (Or.inl ⟨by rfl, ?h11a⟩) (by assumption) ?_
      case h11a => (intro W hSw; (try dsimp only at hSw); go_simp; try with_reducible rfl)
      try simp only [Act.put, List.setIfInBounds_toArray, List.set_cons_zero, List.set_cons_succ]
      refine wpAnyH_take (i := 12) (v := ?v12a) (by simp only [List.getElem?_toArray, List.getElem?_cons_succ, List.getElem?_cons_zero]; rfl) (by kernel_rfl) (by kernel_rfl) (by kernel_rfl) (by exact fun _ _ _ h => h) (Or.inl ⟨by rfl, ?h12a⟩) (by assumption) ?_
      case h12a => (intro W hSw; (try dsimp only at hSw); go_simp; rw [if_pos (show (q : Int) ≤ 512 by omega)]; try with_reducible rfl)
      try simp only [Act.put, List.setIfInBounds_toArray, List.set_cons_zero, List.set_cons_succ]
      refine wpAnyH_take (i := 13) (by simp only [List.getElem?_toArray, List.getElem?_cons_succ, List.getElem?_cons_zero]; rfl) (by kernel_rfl) (by kernel_rfl) (by kernel_rfl) (by exact fun _ _ _ h => h) (yieldsIf_conv (by rfl) 29 9 (.tmp 87) rfl _ (.string ⟨(FC.drop q).toArray⟩) rfl (fun W hS => HD.out W hS _ _ _ (fun hq => if_neg (by omega)) (by rfl))) (by assumption) ?_
      try simp only [Act.put, List.setIfInBounds_toArray, List.set_cons_zero, List.set_cons_succ]
      refine wpAnyH_ready (rs := [6]) (by kernel_rfl) (by simp) ?_
      refine AllReadyH.cons (by simp only [List.getElem?_toArray, List.getElem?_cons_succ, List.getElem?_cons_zero]; rfl) (fun K hK => ?_) AllReadyH.nil
      go_simp
      refine (full_any A' n' c' b _ w.heap.size (H2.out.below (B9.out.trans (hHeld.mono B9.out.size))) (Nat.le_trans B9.out.size hHeld.size)).mono ?_
      rintro e v6 ⟨A6, n6, c6, rfl, own6, b6⟩
      have hn6 := own6.len
      rw [fullL_len] at hn6
      subst hn6
      have cp6 := own6.caps.1
      obtain ⟨g6, rfl, _, _⟩ := own6.head (by omega)
      have hS6 : Below w9.heap.size w9 v6 := Below.trans hHeld (b6.mono hHeld.size)
      refine hK _ _ hS6 (fun hH6 => ?_)
      clear hK K
      try simp only [Act.put, List.setIfInBounds_toArray, List.set_cons_zero, List.set_cons_succ]
      refine wpAnyH_take (i := 8) (v := ?v8a) (by simp only [List.getElem?_toArray, List.getElem?_cons_succ, List.getElem?_cons_zero]; rfl) (by kernel_rfl) (by kernel_rfl) (by kernel_rfl) (by exact fun _ _ _ h => h) (Or.inl ⟨by rfl, ?h8a⟩) (by assumption) ?_
      case h8a => (intro W hSw; (try dsimp only at hSw); go_simp; rw [if_pos (show q ≤ c6 by omega)]; try with_reducible rfl)
      try simp only [Act.put, List.setIfInBounds_toArray, List.set_cons_zero, List.set_cons_succ]
      refine wpAnyH_ready (rs := [9]) (by kernel_rfl) (by simp) ?_
      refine AllReadyH.cons (by simp only [List.getElem?_toArray, List.getElem?_cons_succ, List.getElem?_cons_zero]; rfl) (fun K hK => ?_) AllReadyH.nil
      refine step_convG (by rfl) 29 9 (.tmp 83) rfl _ (.string ⟨(FB.take q).toArray⟩) rfl (HE.out _ _ _ _ own6 _ (by rfl)) ?_
      have hS9 := hS6
      refine hK _ _ hS9 (fun hH9 => ?_)
      clear hK K
      try simp only [Act.put, List.setIfInBounds_toArray, List.set_cons_zero, List.set_cons_succ]
      refine wpAnyH_take (i := 14) (by simp only [List.getElem?_toArray, List.getElem?_cons_succ, List.getElem?_cons_zero]; rfl) (by kernel_rfl) (by kernel_rfl) (by kernel_rfl) (by exact fun _ _ _ h => h) (yieldsIf_binG (by rfl) .add 9 9 (.tmp 84) (.tmp 88) rfl _ _ (.string ⟨(FB.take q ++ FC.drop q).toArray⟩) rfl rfl (fun W => guard_add _ _ _ _ W) (fun W => add_str _ _ HAD.out W)) (by assumption) ?_
      try simp only [Act.put, List.setIfInBounds_toArray, List.set_cons_zero, List.set_cons_succ]
      refine wpAnyH_take (i := 15) (by simp only [List.getElem?_toArray, List.getElem?_cons_succ, List.getElem?_cons_zero]; rfl) (by kernel_rfl) (by kernel_rfl) (by kernel_rfl) (by exact fun _ _ _ h => h) (yieldsIf_binG (by rfl) .eql 9 9 (.tmp 79) (.tmp 89) rfl _ _ (.bool true) rfl rfl (fun W => guard_str _ _ _ _ W) (fun W => eql_self _ W)) (by assumption) ?_
      try simp only [Act.put, List.setIfInBounds_toArray, List.set_cons_zero, List.set_cons_succ]
      refine wpAnyH_take (i := 16) (v := ?v16a) (by simp only [List.getElem?_toArray, List.getElem?_cons_succ, List.getElem?_cons_zero]; rfl) (by kernel_rfl) (by kernel_rfl) (by kernel_rfl) (by exact fun _ _ _ h => h) (Or.inl ⟨by rfl, ?h16a⟩) (by assumption) ?_
      case h16a => (intro W hSw; (try dsimp only at hSw); go_simp; try with_reducible rfl)
      try simp only [Act.put, List.setIfInBounds_toArray, List.set_cons_zero, List.set_cons_succ]
      refine wpAnyH_take (i := 17) (v := ?v17a) (by simp only [List.getElem?_toArray, List.getElem?_cons_succ, List.getElem?_cons_zero]; rfl) (by kernel_rfl) (by kernel_rfl) (by kernel_rfl) (by exact fun _ _ _ h => h) (Or.inl ⟨by rfl, ?h17a⟩) (by assumption) ?_
      case h17a => (intro W hSw; (try dsimp only at hSw); go_simp; try with_reducible rfl)
      try simp only [Act.put, List.setIfInBounds_toArray, List.set_cons_zero, List.set_cons_succ]
      refine wpAnyH_take (i := 18) (v := ?v18a) (by simp only [List.getElem?_toArray, List.getElem?_cons_succ, List.getElem?_cons_zero]; rfl) (by kernel_rfl) (by kernel_rfl) (by kernel_rfl) (by exact fun _ _ _ h => h) (Or.inl ⟨by rfl, ?h18a⟩) (by assumption) ?_
      case h18a => (intro W hSw; (try dsimp only at hSw); go_simp; try with_reducible rfl)
      try simp only [Act.put, List.setIfInBounds_toArray, List.set_cons_zero, List.set_cons_succ]
      refine wpAnyH_ready (rs := [19]) (by kernel_rfl) (by simp) ?_
      refine AllReadyH.cons (by simp only [List.getElem?_toArray, List.getElem?_cons_succ, List.getElem?_cons_zero]; rfl) (fun K hK => ?_) AllReadyH.nil
      go_simp
      refine (CT.out _ hS9).mono ?_
      rintro e v19 ⟨A19, n19, c19, rfl, own19, b19⟩
      have hn19 : n19 = 0 := own19.len
      subst hn19
      have hS19 : Below w9.heap.size w9 v19 := Below.trans hS9 (b19.mono hS9.size)
      refine hK _ _ hS19 (fun hH19 => ?_)
      clear hK K
      try simp only [Act.put, List.setIfInBounds_toArray, List.set_cons_zero, List.set_cons_succ]
      refine wpAnyH_take (i := 20) (v := ?v20a) (by simp only [List.getElem?_toArray, List.getElem?_cons_succ, List.getElem?_cons_zero]; rfl) (by kernel_rfl) (by kernel_rfl) (by kernel_rfl) (by exact fun _ _ _ h => h) (Or.inl ⟨by rfl, ?h20a⟩) (by assumption) ?_
      case h20a => (intro W hSw; (try dsimp only at hSw); go_simp; try with_reducible rfl)
      try simp only [Act.put, List.setIfInBounds_toArray, List.set_cons_zero, List.set_cons_succ]
      refine wpAnyH_take (i := 21) (v := ?v21a) (by simp only [List.getElem?_toArray, List.getElem?_cons_succ, List.getElem?_cons_zero]; rfl) (by kernel_rfl) (by kernel_rfl) (by kernel_rfl) (by exact fun _ _ _ h => h) (Or.inl ⟨by rfl, ?h21a⟩) (by assumption) ?_
      case h21a => (intro W hSw; (try dsimp only at hSw); go_simp; try with_reducible rfl)
      try simp only [Act.put, List.setIfInBounds_toArray, List.set_cons_zero, List.set_cons_succ]
      refine wpAnyH_take (i := 22) (v := ?v22a) (by simp only [List.getElem?_toArray, List.getElem?_cons_succ, List.getElem?_cons_zero]; rfl) (by kernel_rfl) (by kernel_rfl) (by kernel_rfl) (by exact fun _ _ _ h => h) (Or.inl ⟨by rfl, ?h22a⟩) (by assumption) ?_
      case h22a => (intro W hSw; (try dsimp only at hSw); go_simp; try with_reducible rfl)
      try simp only [Act.put, List.setIfInBounds_toArray, List.set_cons_zero, List.set_cons_succ]
      refine wpAnyH_take (i := 23) (v := ?v23a) (by simp only [List.getElem?_toArray, List.getElem?_cons_succ, List.getElem?_cons_zero]; rfl) (by kernel_rfl) (by kernel_rfl) (by kernel_rfl) (by exact fun _ _ _ h => h) (Or.inl ⟨by rfl, ?h23a⟩) (by assumption) ?_
      case h23a => (intro W hSw; (try dsimp only at hSw); go_simp; try with_reducible rfl)
      try simp only [Act.put, List.setIfInBounds_toArray, List.set_cons_zero, List.set_cons_succ]
      refine wpAnyH_take (i := 24) (v := ?v24a) (by simp only [List.getElem?_toArray, List.getElem?_cons_succ, List.getElem?_cons_zero]; rfl) (by kernel_rfl) (by kernel_rfl) (by kernel_rfl) (by exact fun _ _ _ h => h) (Or.inl ⟨by rfl, ?h24a⟩) (by assumption) ?_
      case h24a => (intro W hSw; (try dsimp only at hSw); go_simp; try with_reducible rfl)
      try simp only [Act.put, List.setIfInBounds_toArray, List.set_cons_zero, List.set_cons_succ]
      refine wpAnyH_ready (rs := [25]) (by kernel_rfl) (by simp) ?_
      refine AllReadyH.cons (by simp only [List.getElem?_toArray, List.getElem?_cons_succ, List.getElem?_cons_zero]; rfl) (fun K hK => ?_) AllReadyH.nil
      go_simp
      refine (CV.out _ hS19).mono ?_
      rintro e v25 ⟨rfl, b25⟩
      have hS25 : Below w9.heap.size w9 v25 := Below.trans hS19 (b25.mono hS19.size)
      refine hK _ _ hS25 (fun hH25 => ?_)
      clear hK K
      try simp only [Act.put, List.setIfInBounds_toArray, List.set_cons_zero, List.set_cons_succ]
      refine wpAnyH_take (i := 26) (v := ?v26a) (by simp only [List.getElem?_toArray, List.getElem?_cons_succ, List.getElem?_cons_zero]; rfl) (by kernel_rfl) (by kernel_rfl) (by kernel_rfl) (by exact fun _ _ _ h => h) (Or.inl ⟨by rfl, ?h26a⟩) (by assumption) ?_
      case h26a => (intro W hSw; (try dsimp only at hSw); go_simp; try with_reducible rfl)
      try simp only [Act.put, List.setIfInBounds_toArray, List.set_cons_zero, List.set_cons_succ]
      refine wpAnyH_take (i := 27) (v := ?v27a) (by simp only [List.getElem?_toArray, List.getElem?_cons_succ, List.getElem?_cons_zero]; rfl) (by kernel_rfl) (by kernel_rfl) (by kernel_rfl) (by exact fun _ _ _ h => h) (Or.inl ⟨by rfl, ?h27a⟩) (by assumption) ?_
      case h27a => (intro W hSw; (try dsimp only at hSw); go_simp; try with_reducible rfl)
      try simp only [Act.put, List.setIfInBounds_toArray, List.set_cons_zero, List.set_cons_succ]
      refine wpAnyH_take (i := 28) (v := ?v28a) (by simp only [List.getElem?_toArray, List.getElem?_cons_succ, List.getElem?_cons_zero]; rfl) (by kernel_rfl) (by kernel_rfl) (by kernel_rfl) (by exact fun _ _ _ h => h) (Or.inl ⟨by rfl, ?h28a⟩) (by assumption) ?_
      case h28a => (intro W hSw; (try dsimp only at hSw); go_simp; try with_reducible rfl)
      try simp only [Act.put, List.setIfInBounds_toArray, List.set_cons_zero, List.set_cons_succ]
      refine wpAnyH_done (by kernel_rfl) ?_ _
      go_wp2_with fail
      all_goals (go_ret; exact ⟨rfl, B9.out.trans (hS25.mono B9.out.size)⟩)
    | true =>
      cases keep with
      | false =>
        go_enter Try.func6, Try.ntmps6
        go_upto_region 19 with (first
          | (go_at_call 9; refine (begun5_any Z _).mono ?_; rintro e w1 ⟨rfl, b1⟩
             have B1 := Lib.hid b1
             clear b1)
          | (go_at_call 11; refine (CN.out _).mono ?_; rintro e w2 ⟨g, S2, rfl, d2, s2, b2⟩
             have D2 : Hid (OwD Z w w2 g S2 32 (newM 32)) := Lib.hid ⟨d2, fun k hk => Nat.le_trans B1.out.size (s2 k hk), B1.out.trans (b2.mono B1.out.size)⟩
             clear d2 s2 b2 B1)
          | (go_at_call 10; refine (place_any z 32 _ HZ.out (by omega) (by omega)).mono ?_; rintro e w2' ⟨⟨j, hj, rfl⟩, rfl⟩
             have TC := Lib.hid (torn_cs Z true false j a b p q hj HQ.out HP.out)
             clear hj)
          | (go_at_call 20; refine (full_any none 0 0 [] _ 0 (HasB.nil _ _ _) (Nat.zero_le _)).mono ?_; rintro e w8 ⟨A8, n8, c8, rfl, own8, b8⟩
             have D8 := Lib.hid (D72.out.below b8)
             have O8 := Lib.hid own8
             clear own8 b8)
          | (go_at_call 20; refine (full_any A n c a _ w.heap.size (H1.out.below D7.out.bel) D7.out.bel.size).mono ?_; rintro e w72 ⟨A72, n72, c72, rfl, own72, b72⟩
             have D72 := Lib.hid (D7.out.below b72)
             clear own72 b72)
          | (go_at_call 20; refine (full_any A' n' c' b _ w.heap.size (H2.out.below D5.out.bel) D5.out.bel.size).mono ?_; rintro e w51 ⟨A51, n51, c51, rfl, own51, b51⟩
             have D51 := Lib.hid (D5.out.below b51)
             have N51 := Lib.hid (own51.outside D5.out.slt)
             have hn51 := own51.len
             rw [fullL_len] at hn51
             subst hn51
             have cp51 := own51.caps.1
             clear own51 b51)
          | (go_at_call 20; refine (full_any A n c a _ w.heap.size (H1.out.below D2.out.bel) D2.out.bel.size).mono ?_; rintro e w21 ⟨A21, n21, c21, rfl, own21, b21⟩
             have D21 := Lib.hid (D2.out.below b21)
             have N21 := Lib.hid (own21.outside D2.out.slt)
             have hn21 := own21.len
             rw [fullL_len] at hn21
             subst hn21
             have cp21 := own21.caps.1
             clear own21 b21)
          | (go_at_call 23; refine (TC.out.w2 _ _ _ _ _ _ D51.out.d N51.out cp51 (by omega)).mono ?_; rintro e w6 L6
             obtain ⟨S6, D6⟩ := D51.out.step L6
             obtain ⟨rfl, _, _⟩ := L6
             have D6 := Lib.hid D6)
          | (go_at_call 23; refine (TC.out.w1 _ _ _ _ _ _ D21.out.d N21.out cp21 (by omega)).mono ?_; rintro e w3 L3
             obtain ⟨S3, D3⟩ := D21.out.step L3
             obtain ⟨rfl, _, _⟩ := L3
             have D3 := Lib.hid D3)
          | (go_at_call 25; refine (TC.out.arm _ _ _ D3.out.d).mono ?_; rintro e w5 L5
             obtain ⟨S5, D5⟩ := D3.out.step L5
             obtain ⟨rfl, _, _⟩ := L5
             have D5 := Lib.hid D5)
          | (go_at_call 21; refine (TC.out.dead _ _ _ D6.out.d).mono ?_; rintro e w61 ⟨rfl, b61⟩
             have D61 := Lib.hid (D6.out.below b61)
             have D62 := Lib.hid (D61.out.alloc (.cells #[.bool false] 4))
             have N62 := Lib.hid (hasNo_one w61 false 4 S6 D61.out.slt)
             clear b61)
          | (go_at_call 16; refine (TC.out.power _ _ _ _ _ _ D62.out.d N62.out (by omega) (by omega)).mono ?_; rintro e w7 L7
             obtain ⟨S7, D7⟩ := D62.out.step L7
             obtain ⟨rfl, _, _⟩ := L7
             have D7 := Lib.hid D7)
          | (refine wpList_min2 rfl (.tmp 58) (.const (.int .i64 512)) rfl p 512 u rfl rfl HU.out ?_)
          | (refine wpList_max2 rfl (.const (.int .i64 0)) (.tmp 59) rfl 0 u (q : Int) rfl rfl HV.out ?_)
          | (go_at_call 18; refine (TC.out.read _ _ _ D8.out.d).mono ?_; rintro e w9 ⟨A9, n9, c9, rfl, own9, b9⟩
             have D9 := Lib.hid (D8.out.below b9)
             have O9 := Lib.hid own9
             have O89 := Lib.hid (O8.out.below b9)
             clear own9 b9))
        have B9 := Lib.hid D9.out.bel
        have hn8 := O89.out.len
        rw [fullL_len] at hn8
        subst hn8
        have cp8 := O89.out.caps.1
        obtain ⟨g8, rfl, _, _⟩ := O89.out.head (by omega)
        obtain ⟨FB, hFB⟩ : ∃ l, fullL b = l := ⟨_, rfl⟩
        obtain ⟨FC, hFC⟩ : ∃ l, fullL [] = l := ⟨_, rfl⟩
        have HC : Hid (∀ W, Below w9.heap.size w9 W → (convert 29 9 (.slice A9 n9 c9)).run Try.prog W = .ok (.string ⟨(FB.take q ++ FC.drop q).toArray⟩) W) := Lib.hid (fun W hW => by
          have := run_conv (P := Try.prog) Try.underlying29 Try.underlying5 Try.underlying9 _ A9 n9 c9 _ (O9.out.below hW).has
          rw [← hFB, ← hFC]
          exact this)
        have HD : Hid (∀ W, Below w9.heap.size w9 W → ∀ A2 m c2, (∀ _ : q < 512, A2 = some ⟨g8, q, none⟩) → m = 512 - q → (convert 29 9 (.slice A2 m c2)).run Try.prog W = .ok (.string ⟨(FC.drop q).toArray⟩) W) := Lib.hid (fun W hW A2 m c2 hA hm => by
          have h1 := (O89.out.below hW).has
          rw [hFC] at h1
          have h2 := h1.window (A' := A2) (k := q) (s := 512 - q) (by have := HQ512.out; omega) hm (fun hp => by rw [hA (by omega), Nat.zero_add])
          rw [List.take_of_length_le (by rw [List.length_drop, ← hFC, fullL_len]; omega)] at h2
          exact run_conv (P := Try.prog) Try.underlying29 Try.underlying5 Try.underlying9 _ _ _ c2 _ h2)
        have HE : Hid (∀ W base g6 c6, OwnB W base (.slice (some ⟨g6, 0, none⟩) 512 c6) (fullL b) → ∀ m, m = q → (convert 29 9 (.slice (some ⟨g6, 0, none⟩) m c6)).run Try.prog W = .ok (.string ⟨(FB.take q).toArray⟩) W) := Lib.hid (fun W base g6 c6 h m hm => by
          have h1 := h.has
          rw [hFB] at h1
          have h2 := h1.window (k := 0) (s := q) (by have := HQ512.out; omega) hm (fun _ => rfl)
          rw [List.drop_zero] at h2
          exact run_conv (P := Try.prog) Try.underlying29 Try.underlying5 Try.underlying9 _ _ _ c6 _ h2)
        have CT := Lib.hid (fun W (hW : Below w9.heap.size w9 W) => TC.out.wait W _ _ (D9.out.below hW).d)
        have CV := Lib.hid (fun W (hW : Below w9.heap.size w9 W) => TC.out.lives W _ _ (D9.out.below hW).d)
        have HAD : Hid ((FB.take q).length + (FC.drop q).length ≤ 1024) := Lib.hid (by rw [List.length_take, List.length_drop, ← hFB, ← hFC, fullL_len, fullL_len]; omega)
        have q512 := HQ512.out
        clear hFB hFC
        refine wp_region_held_drew (S := fun W => Below w9.heap.size w9 W) (by kernel_rfl) (Below.refl _ _).drew (fun hHeld => ?_)
        refine wpAnyH_take (i := 0) (v := ?v0b) (by simp only [List.getElem?_toArray, List.getElem?_cons_succ, List.getElem?_cons_zero]; rfl) (by kernel_rfl) (by kernel_rfl) (by kernel_rfl) (by exact fun _ _ _ h => h) (Or.inl ⟨by rfl, ?h0b⟩) (by assumption) ?_
        case h0b => (intro W hSw; (try dsimp only at hSw); go_simp; try with_reducible rfl)
        try simp only [Act.put, List.setIfInBounds_toArray, List.set_cons_zero, List.set_cons_succ]
        refine wpAnyH_take (i := 1) (v := ?v1b) (by simp only [List.getElem?_toArray, List.getElem?_cons_succ, List.getElem?_cons_zero]; rfl) (by kernel_rfl) (by kernel_rfl) (by kernel_rfl) (by exact fun _ _ _ h => h) (Or.inl ⟨by rfl, ?h1b⟩) (by assumption) ?_
        case h1b => (intro W hSw; (try dsimp only at hSw); go_simp; try with_reducible rfl)
        try simp only [Act.put, List.setIfInBounds_toArray, List.set_cons_zero, List.set_cons_succ]
        refine wpAnyH_take (i := 2) (v := ?v2b) (by simp only [List.getElem?_toArray, List.getElem?_cons_succ, List.getElem?_cons_zero]; rfl) (by kernel_rfl) (by kernel_rfl) (by kernel_rfl) (by exact fun _ _ _ h => h) (Or.inl ⟨by rfl, ?h2b⟩) (by assumption) ?_
        case h2b => (intro W hSw; (try dsimp only at hSw); go_simp; try with_reducible rfl)
        try simp only [Act.put, List.setIfInBounds_toArray, List.set_cons_zero, List.set_cons_succ]
        refine wpAnyH_take (i := 3) (v := ?v3b) (by simp only [List.getElem?_toArray, List.getElem?_cons_succ, List.getElem?_cons_zero]; rfl) (by kernel_rfl) (by kernel_rfl) (by kernel_rfl) (by exact fun _ _ _ h => h) (Or.inl ⟨by rfl, ?h3b⟩) (by assumption) ?_
        case h3b => (intro W hSw; (try dsimp only at hSw); go_simp; try with_reducible rfl)
        try simp only [Act.put, List.setIfInBounds_toArray, List.set_cons_zero, List.set_cons_succ]
        refine wpAnyH_take (i := 4) (by simp only [List.getElem?_toArray, List.getElem?_cons_succ, List.getElem?_cons_zero]; rfl) (by kernel_rfl) (by kernel_rfl) (by kernel_rfl) (by exact fun _ _ _ h => h) (yieldsIf_conv (by rfl) 29 9 (.tmp 78) rfl _ (.string ⟨(FB.take q ++ FC.drop q).toArray⟩) rfl (fun W hS => HC.out W hS)) (by assumption) ?_
        try simp only [Act.put, List.setIfInBounds_toArray, List.set_cons_zero, List.set_cons_succ]
        refine wpAnyH_take (i := 5) (v := ?v5b) (by simp only [List.getElem?_toArray, List.getElem?_cons_succ, List.getElem?_cons_zero]; rfl) (by kernel_rfl) (by kernel_rfl) (by kernel_rfl) (by exact fun _ _ _ h => h) (Or.inl ⟨by rfl, ?h5b⟩) (by assumption) ?_
        case h5b => (intro W hSw; (try dsimp only at hSw); go_simp; try with_reducible rfl)
        try simp only [Act.put, List.setIfInBounds_toArray, List.set_cons_zero, List.set_cons_succ]
        refine wpAnyH_take (i := 7) (v := ?v7b) (by simp only [List.getElem?_toArray, List.getElem?_cons_succ, List.getElem?_cons_zero]; rfl) (by kernel_rfl) (by kernel_rfl) (by kernel_rfl) (by exact fun _ _ _ h => h) (Or.inl ⟨by rfl, ?h7b⟩) (by assumption) ?_
        case h7b => (intro W hSw; (try dsimp only at hSw); go_simp; try with_reducible rfl)
        try simp only [Act.put, List.setIfInBounds_toArray, List.set_cons_zero, List.set_cons_succ]
        refine wpAnyH_take (i := 10) (v := ?v10b) (by simp only [List.getElem?_toArray, List.getElem?_cons_succ, List.getElem?_cons_zero]; rfl) (by kernel_rfl) (by kernel_rfl) (by kernel_rfl) (by exact fun _ _ _ h => h) (Or.inl ⟨by rfl, ?h10b⟩) (by assumption) ?_
        case h10b => (intro W hSw; (try dsimp only at hSw); go_simp; try with_reducible rfl)
        try simp only [Act.put, List.setIfInBounds_toArray, List.set_cons_zero, List.set_cons_succ]
        refine wpAnyH_take (i := 11) (v := ?v11b) (by simp only [List.getElem?_toArray, List.getElem?_cons_succ, List.getElem?_cons_zero]; rfl) (by kernel_rfl) (by kernel_rfl) (by kernel_rfl) (by exact fun _ _ _ h => h) (Or.inl ⟨by rfl, ?h11b⟩) (by assumption) ?_
        case h11b => (intro W hSw; (try dsimp only at hSw); go_simp; try with_reducible rfl)
        try simp only [Act.put, List.setIfInBounds_toArray, List.set_cons_zero, List.set_cons_succ]
        refine wpAnyH_take (i := 12) (v := ?v12b) (by simp only [List.getElem?_toArray, List.getElem?_cons_succ, List.getElem?_cons_zero]; rfl) (by kernel_rfl) (by kernel_rfl) (by kernel_rfl) (by exact fun _ _ _ h => h) (Or.inl ⟨by rfl, ?h12b⟩) (by assumption) ?_
        case h12b => (intro W hSw; (try dsimp only at hSw); go_simp; rw [if_pos (show (q : Int) ≤ 512 by omega)]; try with_reducible rfl)
        try simp only [Act.put, List.setIfInBounds_toArray, List.set_cons_zero, List.set_cons_succ]
        refine wpAnyH_take (i := 13) (by simp only [List.getElem?_toArray, List.getElem?_cons_succ, List.getElem?_cons_zero]; rfl) (by kernel_rfl) (by kernel_rfl) (by kernel_rfl) (by exact fun _ _ _ h => h) (yieldsIf_conv (by rfl) 29 9 (.tmp 87) rfl _ (.string ⟨(FC.drop q).toArray⟩) rfl (fun W hS => HD.out W hS _ _ _ (fun hq => if_neg (by omega)) (by rfl))) (by assumption) ?_
        try simp only [Act.put, List.setIfInBounds_toArray, List.set_cons_zero, List.set_cons_succ]
        refine wpAnyH_ready (rs := [6]) (by kernel_rfl) (by simp) ?_
        refine AllReadyH.cons (by simp only [List.getElem?_toArray, List.getElem?_cons_succ, List.getElem?_cons_zero]; rfl) (fun K hK => ?_) AllReadyH.nil
        go_simp
        refine (full_any A' n' c' b _ w.heap.size (H2.out.below (B9.out.trans (hHeld.mono B9.out.size))) (Nat.le_trans B9.out.size hHeld.size)).mono ?_
        rintro e v6 ⟨A6, n6, c6, rfl, own6, b6⟩
        have hn6 := own6.len
        rw [fullL_len] at hn6
        subst hn6
        have cp6 := own6.caps.1
        obtain ⟨g6, rfl, _, _⟩ := own6.head (by omega)
        have hS6 : Below w9.heap.size w9 v6 := Below.trans hHeld (b6.mono hHeld.size)
        refine hK _ _ hS6 (fun hH6 => ?_)
        clear hK K
        try simp only [Act.put, List.setIfInBounds_toArray, List.set_cons_zero, List.set_cons_succ]
        refine wpAnyH_take (i := 8) (v := ?v8b) (by simp only [List.getElem?_toArray, List.getElem?_cons_succ, List.getElem?_cons_zero]; rfl) (by kernel_rfl) (by kernel_rfl) (by kernel_rfl) (by exact fun _ _ _ h => h) (Or.inl ⟨by rfl, ?h8b⟩) (by assumption) ?_
        case h8b => (intro W hSw; (try dsimp only at hSw); go_simp; rw [if_pos (show q ≤ c6 by omega)]; try with_reducible rfl)
        try simp only [Act.put, List.setIfInBounds_toArray, List.set_cons_zero, List.set_cons_succ]
        refine wpAnyH_ready (rs := [9]) (by kernel_rfl) (by simp) ?_
        refine AllReadyH.cons (by simp only [List.getElem?_toArray, List.getElem?_cons_succ, List.getElem?_cons_zero]; rfl) (fun K hK => ?_) AllReadyH.nil
        refine step_convG (by rfl) 29 9 (.tmp 83) rfl _ (.string ⟨(FB.take q).toArray⟩) rfl (HE.out _ _ _ _ own6 _ (by rfl)) ?_
        have hS9 := hS6
        refine hK _ _ hS9 (fun hH9 => ?_)
        clear hK K
        try simp only [Act.put, List.setIfInBounds_toArray, List.set_cons_zero, List.set_cons_succ]
        refine wpAnyH_take (i := 14) (by simp only [List.getElem?_toArray, List.getElem?_cons_succ, List.getElem?_cons_zero]; rfl) (by kernel_rfl) (by kernel_rfl) (by kernel_rfl) (by exact fun _ _ _ h => h) (yieldsIf_binG (by rfl) .add 9 9 (.tmp 84) (.tmp 88) rfl _ _ (.string ⟨(FB.take q ++ FC.drop q).toArray⟩) rfl rfl (fun W => guard_add _ _ _ _ W) (fun W => add_str _ _ HAD.out W)) (by assumption) ?_
        try simp only [Act.put, List.setIfInBounds_toArray, List.set_cons_zero, List.set_cons_succ]
        refine wpAnyH_take (i := 15) (by simp only [List.getElem?_toArray, List.getElem?_cons_succ, List.getElem?_cons_zero]; rfl) (by kernel_rfl) (by kernel_rfl) (by kernel_rfl) (by exact fun _ _ _ h => h) (yieldsIf_binG (by rfl) .eql 9 9 (.tmp 79) (.tmp 89) rfl _ _ (.bool true) rfl rfl (fun W => guard_str _ _ _ _ W) (fun W => eql_self _ W)) (by assumption) ?_
        try simp only [Act.put, List.setIfInBounds_toArray, List.set_cons_zero, List.set_cons_succ]
        refine wpAnyH_take (i := 16) (v := ?v16b) (by simp only [List.getElem?_toArray, List.getElem?_cons_succ, List.getElem?_cons_zero]; rfl) (by kernel_rfl) (by kernel_rfl) (by kernel_rfl) (by exact fun _ _ _ h => h) (Or.inl ⟨by rfl, ?h16b⟩) (by assumption) ?_
        case h16b => (intro W hSw; (try dsimp only at hSw); go_simp; try with_reducible rfl)
        try simp only [Act.put, List.setIfInBounds_toArray, List.set_cons_zero, List.set_cons_succ]
        refine wpAnyH_take (i := 17) (v := ?v17b) (by simp only [List.getElem?_toArray, List.getElem?_cons_succ, List.getElem?_cons_zero]; rfl) (by kernel_rfl) (by kernel_rfl) (by kernel_rfl) (by exact fun _ _ _ h => h) (Or.inl ⟨by rfl, ?h17b⟩) (by assumption) ?_
        case h17b => (intro W hSw; (try dsimp only at hSw); go_simp; try with_reducible rfl)
        try simp only [Act.put, List.setIfInBounds_toArray, List.set_cons_zero, List.set_cons_succ]
        refine wpAnyH_take (i := 18) (v := ?v18b) (by simp only [List.getElem?_toArray, List.getElem?_cons_succ, List.getElem?_cons_zero]; rfl) (by kernel_rfl) (by kernel_rfl) (by kernel_rfl) (by exact fun _ _ _ h => h) (Or.inl ⟨by rfl, ?h18b⟩) (by assumption) ?_
        case h18b => (intro W hSw; (try dsimp only at hSw); go_simp; try with_reducible rfl)
        try simp only [Act.put, List.setIfInBounds_toArray, List.set_cons_zero, List.set_cons_succ]
        refine wpAnyH_ready (rs := [19]) (by kernel_rfl) (by simp) ?_
        refine AllReadyH.cons (by simp only [List.getElem?_toArray, List.getElem?_cons_succ, List.getElem?_cons_zero]; rfl) (fun K hK => ?_) AllReadyH.nil
        go_simp
        refine (CT.out _ hS9).mono ?_
        rintro e v19 ⟨A19, n19, c19, rfl, own19, b19⟩
        have hn19 : n19 = 0 := own19.len
        subst hn19
        have hS19 : Below w9.heap.size w9 v19 := Below.trans hS9 (b19.mono hS9.size)
        refine hK _ _ hS19 (fun hH19 => ?_)
        clear hK K
        try simp only [Act.put, List.setIfInBounds_toArray, List.set_cons_zero, List.set_cons_succ]
        refine wpAnyH_take (i := 20) (v := ?v20b) (by simp only [List.getElem?_toArray, List.getElem?_cons_succ, List.getElem?_cons_zero]; rfl) (by kernel_rfl) (by kernel_rfl) (by kernel_rfl) (by exact fun _ _ _ h => h) (Or.inl ⟨by rfl, ?h20b⟩) (by assumption) ?_
        case h20b => (intro W hSw; (try dsimp only at hSw); go_simp; try with_reducible rfl)
        try simp only [Act.put, List.setIfInBounds_toArray, List.set_cons_zero, List.set_cons_succ]
        refine wpAnyH_take (i := 21) (v := ?v21b) (by simp only [List.getElem?_toArray, List.getElem?_cons_succ, List.getElem?_cons_zero]; rfl) (by kernel_rfl) (by kernel_rfl) (by kernel_rfl) (by exact fun _ _ _ h => h) (Or.inl ⟨by rfl, ?h21b⟩) (by assumption) ?_
        case h21b => (intro W hSw; (try dsimp only at hSw); go_simp; try with_reducible rfl)
        try simp only [Act.put, List.setIfInBounds_toArray, List.set_cons_zero, List.set_cons_succ]
        refine wpAnyH_take (i := 22) (v := ?v22b) (by simp only [List.getElem?_toArray, List.getElem?_cons_succ, List.getElem?_cons_zero]; rfl) (by kernel_rfl) (by kernel_rfl) (by kernel_rfl) (by exact fun _ _ _ h => h) (Or.inl ⟨by rfl, ?h22b⟩) (by assumption) ?_
        case h22b => (intro W hSw; (try dsimp only at hSw); go_simp; try with_reducible rfl)
        try simp only [Act.put, List.setIfInBounds_toArray, List.set_cons_zero, List.set_cons_succ]
        refine wpAnyH_take (i := 23) (v := ?v23b) (by simp only [List.getElem?_toArray, List.getElem?_cons_succ, List.getElem?_cons_zero]; rfl) (by kernel_rfl) (by kernel_rfl) (by kernel_rfl) (by exact fun _ _ _ h => h) (Or.inl ⟨by rfl, ?h23b⟩) (by assumption) ?_
        case h23b => (intro W hSw; (try dsimp only at hSw); go_simp; try with_reducible rfl)
        try simp only [Act.put, List.setIfInBounds_toArray, List.set_cons_zero, List.set_cons_succ]
        refine wpAnyH_take (i := 24) (v := ?v24b) (by simp only [List.getElem?_toArray, List.getElem?_cons_succ, List.getElem?_cons_zero]; rfl) (by kernel_rfl) (by kernel_rfl) (by kernel_rfl) (by exact fun _ _ _ h => h) (Or.inl ⟨by rfl, ?h24b⟩) (by assumption) ?_
        case h24b => (intro W hSw; (try dsimp only at hSw); go_simp; try with_reducible rfl)
        try simp only [Act.put, List.setIfInBounds_toArray, List.set_cons_zero, List.set_cons_succ]
        refine wpAnyH_ready (rs := [25]) (by kernel_rfl) (by simp) ?_
        refine AllReadyH.cons (by simp only [List.getElem?_toArray, List.getElem?_cons_succ, List.getElem?_cons_zero]; rfl) (fun K hK => ?_) AllReadyH.nil
        go_simp
        refine (CV.out _ hS19).mono ?_
        rintro e v25 ⟨rfl, b25⟩
        have hS25 : Below w9.heap.size w9 v25 := Below.trans hS19 (b25.mono hS19.size)
        refine hK _ _ hS25 (fun hH25 => ?_)
        clear hK K
        try simp only [Act.put, List.setIfInBounds_toArray, List.set_cons_zero, List.set_cons_succ]
        refine wpAnyH_take (i := 26) (v := ?v26b) (by simp only [List.getElem?_toArray, List.getElem?_cons_succ, List.getElem?_cons_zero]; rfl) (by kernel_rfl) (by kernel_rfl) (by kernel_rfl) (by exact fun _ _ _ h => h) (Or.inl ⟨by rfl, ?h26b⟩) (by assumption) ?_
        case h26b => (intro W hSw; (try dsimp only at hSw); go_simp; try with_reducible rfl)
        try simp only [Act.put, List.setIfInBounds_toArray, List.set_cons_zero, List.set_cons_succ]
        refine wpAnyH_take (i := 27) (v := ?v27b) (by simp only [List.getElem?_toArray, List.getElem?_cons_succ, List.getElem?_cons_zero]; rfl) (by kernel_rfl) (by kernel_rfl) (by kernel_rfl) (by exact fun _ _ _ h => h) (Or.inl ⟨by rfl, ?h27b⟩) (by assumption) ?_
        case h27b => (intro W hSw; (try dsimp only at hSw); go_simp; try with_reducible rfl)
        try simp only [Act.put, List.setIfInBounds_toArray, List.set_cons_zero, List.set_cons_succ]
        refine wpAnyH_take (i := 28) (v := ?v28b) (by simp only [List.getElem?_toArray, List.getElem?_cons_succ, List.getElem?_cons_zero]; rfl) (by kernel_rfl) (by kernel_rfl) (by kernel_rfl) (by exact fun _ _ _ h => h) (Or.inl ⟨by rfl, ?h28b⟩) (by assumption) ?_
        case h28b => (intro W hSw; (try dsimp only at hSw); go_simp; try with_reducible rfl)
        try simp only [Act.put, List.setIfInBounds_toArray, List.set_cons_zero, List.set_cons_succ]
        refine wpAnyH_done (by kernel_rfl) ?_ _
        go_wp2_with fail
        all_goals (go_ret; exact ⟨rfl, B9.out.trans (hS25.mono B9.out.size)⟩)
      | true =>
        go_enter Try.func6, Try.ntmps6
        go_upto_region 19 with (first
          | (go_at_call 9; refine (begun5_any Z _).mono ?_; rintro e w1 ⟨rfl, b1⟩
             have B1 := Lib.hid b1
             clear b1)
          | (go_at_call 11; refine (CN.out _).mono ?_; rintro e w2 ⟨g, S2, rfl, d2, s2, b2⟩
             have D2 : Hid (OwD Z w w2 g S2 32 (newM 32)) := Lib.hid ⟨d2, fun k hk => Nat.le_trans B1.out.size (s2 k hk), B1.out.trans (b2.mono B1.out.size)⟩
             clear d2 s2 b2 B1)
          | (go_at_call 10; refine (place_any z 32 _ HZ.out (by omega) (by omega)).mono ?_; rintro e w2' ⟨⟨j, hj, rfl⟩, rfl⟩
             have TC := Lib.hid (torn_cs Z true true j a b p q hj HQ.out HP.out)
             clear hj)
          | (go_at_call 20; refine (full_any A n c a _ w.heap.size (H1.out.below D7.out.bel) D7.out.bel.size).mono ?_; rintro e w8 ⟨A8, n8, c8, rfl, own8, b8⟩
             have D8 := Lib.hid (D7.out.below b8)
             have O8 := Lib.hid own8
             clear own8 b8)
          | (go_at_call 20; refine (full_any A' n' c' b _ w.heap.size (H2.out.below D5.out.bel) D5.out.bel.size).mono ?_; rintro e w51 ⟨A51, n51, c51, rfl, own51, b51⟩
             have D51 := Lib.hid (D5.out.below b51)
             have N51 := Lib.hid (own51.outside D5.out.slt)
             have hn51 := own51.len
             rw [fullL_len] at hn51
             subst hn51
             have cp51 := own51.caps.1
             clear own51 b51)
          | (go_at_call 20; refine (full_any A n c a _ w.heap.size (H1.out.below D2.out.bel) D2.out.bel.size).mono ?_; rintro e w21 ⟨A21, n21, c21, rfl, own21, b21⟩
             have D21 := Lib.hid (D2.out.below b21)
             have N21 := Lib.hid (own21.outside D2.out.slt)
             have hn21 := own21.len
             rw [fullL_len] at hn21
             subst hn21
             have cp21 := own21.caps.1
             clear own21 b21)
          | (go_at_call 23; refine (TC.out.w2 _ _ _ _ _ _ D51.out.d N51.out cp51 (by omega)).mono ?_; rintro e w6 L6
             obtain ⟨S6, D6⟩ := D51.out.step L6
             obtain ⟨rfl, _, _⟩ := L6
             have D6 := Lib.hid D6)
          | (go_at_call 23; refine (TC.out.w1 _ _ _ _ _ _ D21.out.d N21.out cp21 (by omega)).mono ?_; rintro e w3 L3
             obtain ⟨S3, D3⟩ := D21.out.step L3
             obtain ⟨rfl, _, _⟩ := L3
             have D3 := Lib.hid D3)
          | (go_at_call 25; refine (TC.out.arm _ _ _ D3.out.d).mono ?_; rintro e w5 L5
             obtain ⟨S5, D5⟩ := D3.out.step L5
             obtain ⟨rfl, _, _⟩ := L5
             have D5 := Lib.hid D5)
          | (go_at_call 21; refine (TC.out.dead _ _ _ D6.out.d).mono ?_; rintro e w61 ⟨rfl, b61⟩
             have D61 := Lib.hid (D6.out.below b61)
             have D62 := Lib.hid (D61.out.alloc (.cells #[.bool true] 4))
             have N62 := Lib.hid (hasNo_one w61 true 4 S6 D61.out.slt)
             clear b61)
          | (go_at_call 16; refine (TC.out.power _ _ _ _ _ _ D62.out.d N62.out (by omega) (by omega)).mono ?_; rintro e w7 L7
             obtain ⟨S7, D7⟩ := D62.out.step L7
             obtain ⟨rfl, _, _⟩ := L7
             have D7 := Lib.hid D7)
          | (refine wpList_min2 rfl (.tmp 58) (.const (.int .i64 512)) rfl p 512 u rfl rfl HU.out ?_)
          | (refine wpList_max2 rfl (.const (.int .i64 0)) (.tmp 59) rfl 0 u (q : Int) rfl rfl HV.out ?_)
          | (go_at_call 18; refine (TC.out.read _ _ _ D8.out.d).mono ?_; rintro e w9 ⟨A9, n9, c9, rfl, own9, b9⟩
             have D9 := Lib.hid (D8.out.below b9)
             have O9 := Lib.hid own9
             have O89 := Lib.hid (O8.out.below b9)
             clear own9 b9))
        have B9 := Lib.hid D9.out.bel
        have hn8 := O89.out.len
        rw [fullL_len] at hn8
        subst hn8
        have cp8 := O89.out.caps.1
        obtain ⟨g8, rfl, _, _⟩ := O89.out.head (by omega)
        obtain ⟨FB, hFB⟩ : ∃ l, fullL b = l := ⟨_, rfl⟩
        obtain ⟨FC, hFC⟩ : ∃ l, fullL a = l := ⟨_, rfl⟩
        have HC : Hid (∀ W, Below w9.heap.size w9 W → (convert 29 9 (.slice A9 n9 c9)).run Try.prog W = .ok (.string ⟨(FB.take q ++ FC.drop q).toArray⟩) W) := Lib.hid (fun W hW => by
          have := run_conv (P := Try.prog) Try.underlying29 Try.underlying5 Try.underlying9 _ A9 n9 c9 _ (O9.out.below hW).has
          rw [← hFB, ← hFC]
          exact this)
        have HD : Hid (∀ W, Below w9.heap.size w9 W → ∀ A2 m c2, (∀ _ : q < 512, A2 = some ⟨g8, q, none⟩) → m = 512 - q → (convert 29 9 (.slice A2 m c2)).run Try.prog W = .ok (.string ⟨(FC.drop q).toArray⟩) W) := Lib.hid (fun W hW A2 m c2 hA hm => by
          have h1 := (O89.out.below hW).has
          rw [hFC] at h1
          have h2 := h1.window (A' := A2) (k := q) (s := 512 - q) (by have := HQ512.out; omega) hm (fun hp => by rw [hA (by omega), Nat.zero_add])
          rw [List.take_of_length_le (by rw [List.length_drop, ← hFC, fullL_len]; omega)] at h2
          exact run_conv (P := Try.prog) Try.underlying29 Try.underlying5 Try.underlying9 _ _ _ c2 _ h2)
        have HE : Hid (∀ W base g6 c6, OwnB W base (.slice (some ⟨g6, 0, none⟩) 512 c6) (fullL b) → ∀ m, m = q → (convert 29 9 (.slice (some ⟨g6, 0, none⟩) m c6)).run Try.prog W = .ok (.string ⟨(FB.take q).toArray⟩) W) := Lib.hid (fun W base g6 c6 h m hm => by
          have h1 := h.has
          rw [hFB] at h1
          have h2 := h1.window (k := 0) (s := q) (by have := HQ512.out; omega) hm (fun _ => rfl)
          rw [List.drop_zero] at h2
          exact run_conv (P := Try.prog) Try.underlying29 Try.underlying5 Try.underlying9 _ _ _ c6 _ h2)
        have CT := Lib.hid (fun W (hW : Below w9.heap.size w9 W) => TC.out.wait W _ _ (D9.out.below hW).d)
        have CV := Lib.hid (fun W (hW : Below w9.heap.size w9 W) => TC.out.lives W _ _ (D9.out.below hW).d)
        have HAD : Hid ((FB.take q).length + (FC.drop q).length ≤ 1024) := Lib.hid (by rw [List.length_take, List.length_drop, ← hFB, ← hFC, fullL_len, fullL_len]; omega)
        have q512 := HQ512.out
        clear hFB hFC
        refine wp_region_held_drew (S := fun W => Below w9.heap.size w9 W) (by kernel_rfl) (Below.refl _ _).drew (fun hHeld => ?_)
        refine wpAnyH_take (i := 0) (v := ?v0c) (by simp only [List.getElem?_toArray, List.getElem?_cons_succ, List.getElem?_cons_zero]; rfl) (by kernel_rfl) (by kernel_rfl) (by kernel_rfl) (by exact fun _ _ _ h => h) (Or.inl ⟨by rfl, ?h0c⟩) (by assumption) ?_
        case h0c => (intro W hSw; (try dsimp only at hSw); go_simp; try with_reducible rfl)
        try simp only [Act.put, List.setIfInBounds_toArray, List.set_cons_zero, List.set_cons_succ]
        refine wpAnyH_take (i := 1) (v := ?v1c) (by simp only [List.getElem?_toArray, List.getElem?_cons_succ, List.getElem?_cons_zero]; rfl) (by kernel_rfl) (by kernel_rfl) (by kernel_rfl) (by exact fun _ _ _ h => h) (Or.inl ⟨by rfl, ?h1c⟩) (by assumption) ?_
        case h1c => (intro W hSw; (try dsimp only at hSw); go_simp; try with_reducible rfl)
        try simp only [Act.put, List.setIfInBounds_toArray, List.set_cons_zero, List.set_cons_succ]
        refine wpAnyH_take (i := 2) (v := ?v2c) (by simp only [List.getElem?_toArray, List.getElem?_cons_succ, List.getElem?_cons_zero]; rfl) (by kernel_rfl) (by kernel_rfl) (by kernel_rfl) (by exact fun _ _ _ h => h) (Or.inl ⟨by rfl, ?h2c⟩) (by assumption) ?_
        case h2c => (intro W hSw; (try dsimp only at hSw); go_simp; try with_reducible rfl)
        try simp only [Act.put, List.setIfInBounds_toArray, List.set_cons_zero, List.set_cons_succ]
        refine wpAnyH_take (i := 3) (v := ?v3c) (by simp only [List.getElem?_toArray, List.getElem?_cons_succ, List.getElem?_cons_zero]; rfl) (by kernel_rfl) (by kernel_rfl) (by kernel_rfl) (by exact fun _ _ _ h => h) (Or.inl ⟨by rfl, ?h3c⟩) (by assumption) ?_
        case h3c => (intro W hSw; (try dsimp only at hSw); go_simp; try with_reducible rfl)
        try simp only [Act.put, List.setIfInBounds_toArray, List.set_cons_zero, List.set_cons_succ]
        refine wpAnyH_take (i := 4) (by simp only [List.getElem?_toArray, List.getElem?_cons_succ, List.getElem?_cons_zero]; rfl) (by kernel_rfl) (by kernel_rfl) (by kernel_rfl) (by exact fun _ _ _ h => h) (yieldsIf_conv (by rfl) 29 9 (.tmp 78) rfl _ (.string ⟨(FB.take q ++ FC.drop q).toArray⟩) rfl (fun W hS => HC.out W hS)) (by assumption) ?_
        try simp only [Act.put, List.setIfInBounds_toArray, List.set_cons_zero, List.set_cons_succ]
        refine wpAnyH_take (i := 5) (v := ?v5c) (by simp only [List.getElem?_toArray, List.getElem?_cons_succ, List.getElem?_cons_zero]; rfl) (by kernel_rfl) (by kernel_rfl) (by kernel_rfl) (by exact fun _ _ _ h => h) (Or.inl ⟨by rfl, ?h5c⟩) (by assumption) ?_
        case h5c => (intro W hSw; (try dsimp only at hSw); go_simp; try with_reducible rfl)
        try simp only [Act.put, List.setIfInBounds_toArray, List.set_cons_zero, List.set_cons_succ]
        refine wpAnyH_take (i := 7) (v := ?v7c) (by simp only [List.getElem?_toArray, List.getElem?_cons_succ, List.getElem?_cons_zero]; rfl) (by kernel_rfl) (by kernel_rfl) (by kernel_rfl) (by exact fun _ _ _ h => h) (Or.inl ⟨by rfl, ?h7c⟩) (by assumption) ?_
        case h7c => (intro W hSw; (try dsimp only at hSw); go_simp; try with_reducible rfl)
        try simp only [Act.put, List.setIfInBounds_toArray, List.set_cons_zero, List.set_cons_succ]
        refine wpAnyH_take (i := 10) (v := ?v10c) (by simp only [List.getElem?_toArray, List.getElem?_cons_succ, List.getElem?_cons_zero]; rfl) (by kernel_rfl) (by kernel_rfl) (by kernel_rfl) (by exact fun _ _ _ h => h) (Or.inl ⟨by rfl, ?h10c⟩) (by assumption) ?_
        case h10c => (intro W hSw; (try dsimp only at hSw); go_simp; try with_reducible rfl)
        try simp only [Act.put, List.setIfInBounds_toArray, List.set_cons_zero, List.set_cons_succ]
        refine wpAnyH_take (i := 11) (v := ?v11c) (by simp only [List.getElem?_toArray, List.getElem?_cons_succ, List.getElem?_cons_zero]; rfl) (by kernel_rfl) (by kernel_rfl) (by kernel_rfl) (by exact fun _ _ _ h => h) (Or.inl ⟨by rfl, ?h11c⟩) (by assumption) ?_
        case h11c => (intro W hSw; (try dsimp only at hSw); go_simp; try with_reducible rfl)
        try simp only [Act.put, List.setIfInBounds_toArray, List.set_cons_zero, List.set_cons_succ]
        refine wpAnyH_take (i := 12) (v := ?v12c) (by simp only [List.getElem?_toArray, List.getElem?_cons_succ, List.getElem?_cons_zero]; rfl) (by kernel_rfl) (by kernel_rfl) (by kernel_rfl) (by exact fun _ _ _ h => h) (Or.inl ⟨by rfl, ?h12c⟩) (by assumption) ?_
        case h12c => (intro W hSw; (try dsimp only at hSw); go_simp; rw [if_pos (show (q : Int) ≤ 512 by omega)]; try with_reducible rfl)
        try simp only [Act.put, List.setIfInBounds_toArray, List.set_cons_zero, List.set_cons_succ]
        refine wpAnyH_take (i := 13) (by simp only [List.getElem?_toArray, List.getElem?_cons_succ, List.getElem?_cons_zero]; rfl) (by kernel_rfl) (by kernel_rfl) (by kernel_rfl) (by exact fun _ _ _ h => h) (yieldsIf_conv (by rfl) 29 9 (.tmp 87) rfl _ (.string ⟨(FC.drop q).toArray⟩) rfl (fun W hS => HD.out W hS _ _ _ (fun hq => if_neg (by omega)) (by rfl))) (by assumption) ?_
        try simp only [Act.put, List.setIfInBounds_toArray, List.set_cons_zero, List.set_cons_succ]
        refine wpAnyH_ready (rs := [6]) (by kernel_rfl) (by simp) ?_
        refine AllReadyH.cons (by simp only [List.getElem?_toArray, List.getElem?_cons_succ, List.getElem?_cons_zero]; rfl) (fun K hK => ?_) AllReadyH.nil
        go_simp
        refine (full_any A' n' c' b _ w.heap.size (H2.out.below (B9.out.trans (hHeld.mono B9.out.size))) (Nat.le_trans B9.out.size hHeld.size)).mono ?_
        rintro e v6 ⟨A6, n6, c6, rfl, own6, b6⟩
        have hn6 := own6.len
        rw [fullL_len] at hn6
        subst hn6
        have cp6 := own6.caps.1
        obtain ⟨g6, rfl, _, _⟩ := own6.head (by omega)
        have hS6 : Below w9.heap.size w9 v6 := Below.trans hHeld (b6.mono hHeld.size)
        refine hK _ _ hS6 (fun hH6 => ?_)
        clear hK K
        try simp only [Act.put, List.setIfInBounds_toArray, List.set_cons_zero, List.set_cons_succ]
        refine wpAnyH_take (i := 8) (v := ?v8c) (by simp only [List.getElem?_toArray, List.getElem?_cons_succ, List.getElem?_cons_zero]; rfl) (by kernel_rfl) (by kernel_rfl) (by kernel_rfl) (by exact fun _ _ _ h => h) (Or.inl ⟨by rfl, ?h8c⟩) (by assumption) ?_
        case h8c => (intro W hSw; (try dsimp only at hSw); go_simp; rw [if_pos (show q ≤ c6 by omega)]; try with_reducible rfl)
        try simp only [Act.put, List.setIfInBounds_toArray, List.set_cons_zero, List.set_cons_succ]
        refine wpAnyH_ready (rs := [9]) (by kernel_rfl) (by simp) ?_
        refine AllReadyH.cons (by simp only [List.getElem?_toArray, List.getElem?_cons_succ, List.getElem?_cons_zero]; rfl) (fun K hK => ?_) AllReadyH.nil
        refine step_convG (by rfl) 29 9 (.tmp 83) rfl _ (.string ⟨(FB.take q).toArray⟩) rfl (HE.out _ _ _ _ own6 _ (by rfl)) ?_
        have hS9 := hS6
        refine hK _ _ hS9 (fun hH9 => ?_)
        clear hK K
        try simp only [Act.put, List.setIfInBounds_toArray, List.set_cons_zero, List.set_cons_succ]
        refine wpAnyH_take (i := 14) (by simp only [List.getElem?_toArray, List.getElem?_cons_succ, List.getElem?_cons_zero]; rfl) (by kernel_rfl) (by kernel_rfl) (by kernel_rfl) (by exact fun _ _ _ h => h) (yieldsIf_binG (by rfl) .add 9 9 (.tmp 84) (.tmp 88) rfl _ _ (.string ⟨(FB.take q ++ FC.drop q).toArray⟩) rfl rfl (fun W => guard_add _ _ _ _ W) (fun W => add_str _ _ HAD.out W)) (by assumption) ?_
        try simp only [Act.put, List.setIfInBounds_toArray, List.set_cons_zero, List.set_cons_succ]
        refine wpAnyH_take (i := 15) (by simp only [List.getElem?_toArray, List.getElem?_cons_succ, List.getElem?_cons_zero]; rfl) (by kernel_rfl) (by kernel_rfl) (by kernel_rfl) (by exact fun _ _ _ h => h) (yieldsIf_binG (by rfl) .eql 9 9 (.tmp 79) (.tmp 89) rfl _ _ (.bool true) rfl rfl (fun W => guard_str _ _ _ _ W) (fun W => eql_self _ W)) (by assumption) ?_
        try simp only [Act.put, List.setIfInBounds_toArray, List.set_cons_zero, List.set_cons_succ]
        refine wpAnyH_take (i := 16) (v := ?v16c) (by simp only [List.getElem?_toArray, List.getElem?_cons_succ, List.getElem?_cons_zero]; rfl) (by kernel_rfl) (by kernel_rfl) (by kernel_rfl) (by exact fun _ _ _ h => h) (Or.inl ⟨by rfl, ?h16c⟩) (by assumption) ?_
        case h16c => (intro W hSw; (try dsimp only at hSw); go_simp; try with_reducible rfl)
        try simp only [Act.put, List.setIfInBounds_toArray, List.set_cons_zero, List.set_cons_succ]
        refine wpAnyH_take (i := 17) (v := ?v17c) (by simp only [List.getElem?_toArray, List.getElem?_cons_succ, List.getElem?_cons_zero]; rfl) (by kernel_rfl) (by kernel_rfl) (by kernel_rfl) (by exact fun _ _ _ h => h) (Or.inl ⟨by rfl, ?h17c⟩) (by assumption) ?_
        case h17c => (intro W hSw; (try dsimp only at hSw); go_simp; try with_reducible rfl)
        try simp only [Act.put, List.setIfInBounds_toArray, List.set_cons_zero, List.set_cons_succ]
        refine wpAnyH_take (i := 18) (v := ?v18c) (by simp only [List.getElem?_toArray, List.getElem?_cons_succ, List.getElem?_cons_zero]; rfl) (by kernel_rfl) (by kernel_rfl) (by kernel_rfl) (by exact fun _ _ _ h => h) (Or.inl ⟨by rfl, ?h18c⟩) (by assumption) ?_
        case h18c => (intro W hSw; (try dsimp only at hSw); go_simp; try with_reducible rfl)
        try simp only [Act.put, List.setIfInBounds_toArray, List.set_cons_zero, List.set_cons_succ]
        refine wpAnyH_ready (rs := [19]) (by kernel_rfl) (by simp) ?_
        refine AllReadyH.cons (by simp only [List.getElem?_toArray, List.getElem?_cons_succ, List.getElem?_cons_zero]; rfl) (fun K hK => ?_) AllReadyH.nil
        go_simp
        refine (CT.out _ hS9).mono ?_
        rintro e v19 ⟨A19, n19, c19, rfl, own19, b19⟩
        have hn19 : n19 = 0 := own19.len
        subst hn19
        have hS19 : Below w9.heap.size w9 v19 := Below.trans hS9 (b19.mono hS9.size)
        refine hK _ _ hS19 (fun hH19 => ?_)
        clear hK K
        try simp only [Act.put, List.setIfInBounds_toArray, List.set_cons_zero, List.set_cons_succ]
        refine wpAnyH_take (i := 20) (v := ?v20c) (by simp only [List.getElem?_toArray, List.getElem?_cons_succ, List.getElem?_cons_zero]; rfl) (by kernel_rfl) (by kernel_rfl) (by kernel_rfl) (by exact fun _ _ _ h => h) (Or.inl ⟨by rfl, ?h20c⟩) (by assumption) ?_
        case h20c => (intro W hSw; (try dsimp only at hSw); go_simp; try with_reducible rfl)
        try simp only [Act.put, List.setIfInBounds_toArray, List.set_cons_zero, List.set_cons_succ]
        refine wpAnyH_take (i := 21) (v := ?v21c) (by simp only [List.getElem?_toArray, List.getElem?_cons_succ, List.getElem?_cons_zero]; rfl) (by kernel_rfl) (by kernel_rfl) (by kernel_rfl) (by exact fun _ _ _ h => h) (Or.inl ⟨by rfl, ?h21c⟩) (by assumption) ?_
        case h21c => (intro W hSw; (try dsimp only at hSw); go_simp; try with_reducible rfl)
        try simp only [Act.put, List.setIfInBounds_toArray, List.set_cons_zero, List.set_cons_succ]
        refine wpAnyH_take (i := 22) (v := ?v22c) (by simp only [List.getElem?_toArray, List.getElem?_cons_succ, List.getElem?_cons_zero]; rfl) (by kernel_rfl) (by kernel_rfl) (by kernel_rfl) (by exact fun _ _ _ h => h) (Or.inl ⟨by rfl, ?h22c⟩) (by assumption) ?_
        case h22c => (intro W hSw; (try dsimp only at hSw); go_simp; try with_reducible rfl)
        try simp only [Act.put, List.setIfInBounds_toArray, List.set_cons_zero, List.set_cons_succ]
        refine wpAnyH_take (i := 23) (v := ?v23c) (by simp only [List.getElem?_toArray, List.getElem?_cons_succ, List.getElem?_cons_zero]; rfl) (by kernel_rfl) (by kernel_rfl) (by kernel_rfl) (by exact fun _ _ _ h => h) (Or.inl ⟨by rfl, ?h23c⟩) (by assumption) ?_
        case h23c => (intro W hSw; (try dsimp only at hSw); go_simp; try with_reducible rfl)
        try simp only [Act.put, List.setIfInBounds_toArray, List.set_cons_zero, List.set_cons_succ]
        refine wpAnyH_take (i := 24) (v := ?v24c) (by simp only [List.getElem?_toArray, List.getElem?_cons_succ, List.getElem?_cons_zero]; rfl) (by kernel_rfl) (by kernel_rfl) (by kernel_rfl) (by exact fun _ _ _ h => h) (Or.inl ⟨by rfl, ?h24c⟩) (by assumption) ?_
        case h24c => (intro W hSw; (try dsimp only at hSw); go_simp; try with_reducible rfl)
        try simp only [Act.put, List.setIfInBounds_toArray, List.set_cons_zero, List.set_cons_succ]
        refine wpAnyH_ready (rs := [25]) (by kernel_rfl) (by simp) ?_
        refine AllReadyH.cons (by simp only [List.getElem?_toArray, List.getElem?_cons_succ, List.getElem?_cons_zero]; rfl) (fun K hK => ?_) AllReadyH.nil
        go_simp
        refine (CV.out _ hS19).mono ?_
        rintro e v25 ⟨rfl, b25⟩
        have hS25 : Below w9.heap.size w9 v25 := Below.trans hS19 (b25.mono hS19.size)
        refine hK _ _ hS25 (fun hH25 => ?_)
        clear hK K
        try simp only [Act.put, List.setIfInBounds_toArray, List.set_cons_zero, List.set_cons_succ]
        refine wpAnyH_take (i := 26) (v := ?v26c) (by simp only [List.getElem?_toArray, List.getElem?_cons_succ, List.getElem?_cons_zero]; rfl) (by kernel_rfl) (by kernel_rfl) (by kernel_rfl) (by exact fun _ _ _ h => h) (Or.inl ⟨by rfl, ?h26c⟩) (by assumption) ?_
        case h26c => (intro W hSw; (try dsimp only at hSw); go_simp; try with_reducible rfl)
        try simp only [Act.put, List.setIfInBounds_toArray, List.set_cons_zero, List.set_cons_succ]
        refine wpAnyH_take (i := 27) (v := ?v27c) (by simp only [List.getElem?_toArray, List.getElem?_cons_succ, List.getElem?_cons_zero]; rfl) (by kernel_rfl) (by kernel_rfl) (by kernel_rfl) (by exact fun _ _ _ h => h) (Or.inl ⟨by rfl, ?h27c⟩) (by assumption) ?_
        case h27c => (intro W hSw; (try dsimp only at hSw); go_simp; try with_reducible rfl)
        try simp only [Act.put, List.setIfInBounds_toArray, List.set_cons_zero, List.set_cons_succ]
        refine wpAnyH_take (i := 28) (v := ?v28c) (by simp only [List.getElem?_toArray, List.getElem?_cons_succ, List.getElem?_cons_zero]; rfl) (by kernel_rfl) (by kernel_rfl) (by kernel_rfl) (by exact fun _ _ _ h => h) (Or.inl ⟨by rfl, ?h28c⟩) (by assumption) ?_
        case h28c => (intro W hSw; (try dsimp only at hSw); go_simp; try with_reducible rfl)
        try simp only [Act.put, List.setIfInBounds_toArray, List.set_cons_zero, List.set_cons_succ]
        refine wpAnyH_done (by kernel_rfl) ?_ _
        go_wp2_with fail
        all_goals (go_ret; exact ⟨rfl, B9.out.trans (hS25.mono B9.out.size)⟩)
end Go.Proofs.Ytpnmcdpekfibjaa
