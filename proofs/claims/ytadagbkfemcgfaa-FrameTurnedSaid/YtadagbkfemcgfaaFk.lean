/-
  Own work. Frames by their contracts; what the laws of layer 10 begin with.
-/
import Derived.Test.YtadagbkfemcgfaaFp
import Derived.Test.YtadagbkfemcgfaaIi
import Derived.Test.YtadagbkfemcgfaaG1
namespace Go.Proofs.Ytadagbkfemcgfaa
open Go.RowKit
set_option linter.unusedVariables false
set_option linter.unusedSimpArgs false

def RetTk (w : World) (t : TK) (e : Ending) (w' : World) : Prop :=
  ∃ A n c, e = .returned (.tuple #[.agg (cellsB t.key).toArray, .slice A n c, .int .i64 (t.n : Int), .int .i64 t.e]) ∧ OwnB w' w.heap.size (.slice A n c) t.b ∧ Below w.heap.size w w'
/-- Frames by their contracts. -/
structure FK : Prop where
  size_any : ∀ w (n : Int), -9223372036854775808 ≤ n ∧ n ≤ 9223372036854775807 → Calls Try.prog 13 #[.int .i64 n] w fun e w' => e = .returned (.int .i64 (fsz n)) ∧ Below w.heap.size w w'
  put_any : ∀ w (A : Option Addr) (n c : Nat) (key l : List UInt8), HasB w w.heap.size A n l → n ≤ c → c ≤ maxLen → n ≤ 1073741824 → key.length = 32 → Calls Try.prog 10 #[.agg (cellsB key).toArray, .slice A n c] w (RetBE w (fputL key l) (fputE l))
  take_any : ∀ w (A : Option Addr) (n c : Nat) (l : List UInt8), HasB w w.heap.size A n l → n ≤ c → c ≤ maxLen → n ≤ 1073741824 → Calls Try.prog 16 #[.slice A n c] w (RetTk w (ftake l))
theorem fsz_bd (n : Int) : 0 ≤ fsz n ∧ fsz n ≤ 4246 := by unfold fsz; split <;> omega
theorem fputE_ok {l : List UInt8} (h : l.length ≤ 4200) : fputE l = 0 := if_pos h
theorem fputL_ok {key l : List UInt8} (h : l.length ≤ 4200) : fputL key l = frL key l := if_pos h
theorem ftake_len (l : List UInt8) : (ftake l).key.length = 32 ∧ (ftake l).b.length ≤ 4200 ∧ (ftake l).n ≤ 4246 := by
  rcases ftake_cases l with ⟨_, h⟩ | ⟨_, h1, h2, h3, _⟩
  · rw [h]
    exact ⟨rfl, by simp [TK.no], by simp [TK.no]⟩
  · exact ⟨h1, h2, by omega⟩

set_option maxRecDepth 100000 in
set_option maxHeartbeats 1000000 in
theorem begun10_any (K : FK) (w : World) : Calls Try.prog 8 #[] w (RetTrue w) := by
  obtain ⟨F, hF⟩ : ∃ F, frL (zer 32) [1] = F := ⟨_, rfl⟩
  have hlen : F.length = 47 := by rw [← hF]; exact frL_len _ _ rfl
  have c1 := fun W => K.put_any (w := W) (A := some ⟨w.heap.size, 0, none⟩) (n := 1) (c := 1) (key := zer 32) (l := [1])
  have c2 := fun W A n c (h : HasB W W.heap.size A n F) (hc : n ≤ c) (hm : c ≤ maxLen) => K.take_any W A n c F h hc hm (by have := h.len; omega)
  have e2 : ftake F = ⟨zer 32, [1], 47, 0⟩ := by have := ftake_frame (zer 32) [1] [] rfl (by simp); rwa [List.append_nil, hF] at this
  have c3 := fun W => K.size_any W 1 (by omega)
  rw [show fsz 1 = 47 from rfl] at c3
  rw [e2] at c2
  unfold RetTk at c2
  obtain ⟨Z, hZ⟩ : ∃ Z, zer 32 = Z := ⟨_, rfl⟩
  have hz32 : Z.length = 32 := by rw [← hZ]; rfl
  rw [hZ] at c2
  rw [fputE_ok (by simp), fputL_ok (by simp), hF] at c1
  have C1 := Lib.hid c1
  have C2 := Lib.hid c2
  have C3 := Lib.hid c3
  have HL := Lib.hid hlen
  have IV := Lib.hid (id_iv Z hz32)
  have IZ := Lib.hid (id_hz Z hz32)
  clear hF c1 c2 c3 e2 hlen hZ hz32
  go_enter Try.func8, Try.ntmps8
  go_wp2_with (first
    | (go_at_call 10; refine (C1.out _ (HasB.row w [1] 5) (by omega) (by simp [maxLen]) (by omega) rfl).mono ?_; rintro e w1 ⟨A1, n1, c1, rfl, o1, b1⟩
       have l1 := o1.len
       have q1 := o1.caps
       have n47 : n1 = 47 := by have := HL.out; omega
       subst n47
       have O1 := Lib.hid o1
       have B1 := Lib.hid (((Below.refl w.heap.size w).alloc (Nat.le_refl _) _).trans (b1.mono (by simp)))
       clear o1 b1 l1)
    | (go_at_call 16; refine (C2.out _ _ _ _ O1.out.has q1.1 q1.2).mono ?_; rintro e w2 ⟨A2, n2, c2, rfl, o2, b2⟩
       have O2 := Lib.hid o2
       have B2 := Lib.hid (B1.out.trans (b2.mono B1.out.size))
       clear o2 b2)
    | (refine wpList_store_row rfl 23 (.tmp 3) (.tmp 16) rfl w2.heap.size (cellsB Z).toArray rfl rfl 23 _ (Bw.new w2 (zer 32) 23) IV.out IZ.out (cellsB_ones _) ?_
       have hrow := below_setRow ((Below.refl w2.heap.size w2).alloc (Nat.le_refl _) (.cells (cellsB (zer 32)).toArray 23)) (Nat.le_refl _) (cellsB Z).toArray
       have k1 := run_conv (P := Try.prog) Try.underlying24 Try.underlying5 Try.underlying9 _ A2 n2 c2 [1] (O2.out.below hrow).has
       have K1 := Lib.hid k1
       clear k1
       have B3 := Lib.hid (B2.out.trans (hrow.mono B2.out.size))
       clear hrow)
    | (refine wpList_convG rfl 24 9 (.tmp 36) rfl (.slice A2 n2 c2) (.string ⟨#[1]⟩) rfl K1.out ?_)
    | (go_at_call 13; refine (C3.out _).mono ?_; rintro e w4 ⟨rfl, b4⟩
       have B4 := Lib.hid (B3.out.trans (b4.mono B3.out.size))
       clear b4))
  go_ret
  exact ⟨rfl, B4.out⟩
end Go.Proofs.Ytadagbkfemcgfaa
