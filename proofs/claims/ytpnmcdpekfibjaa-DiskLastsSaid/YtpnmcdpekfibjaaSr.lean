/-
  Own work. cofferlaw5's Read: a disk and the document's, of one state, read the same everywhere.
-/
import Derived.Test.YtpnmcdpekfibjaaSa
import Derived.Test.YtpnmcdpekfibjaaSx
namespace Go.Proofs.Ytpnmcdpekfibjaa
open Go.RowKit
set_option linter.unusedVariables false
set_option linter.unusedSimpArgs false

set_option maxRecDepth 100000 in
set_option maxHeartbeats 2000000 in
theorem readall_any (Z : DK) (w : World) (g h hl hw n cl cw : Nat) (S : Nat → Prop) (m : RM) (p : Pair Z w g S h hl hw n cl cw m) :
    Calls Try.prog 15 #[.pointer (some ⟨g, 0, none⟩), .pointer (some ⟨h, 0, none⟩)] w (RetTrue w) := by
  have OK := Lib.hid p.ok
  have P := Lib.hid p
  have n2 := p.ok.n2
  clear p
  go_enter Try.func15, Try.ntmps15
  go_wp2_with fail
  go_loopw [5] (fun x wr => ∃ j : Nat, j ≤ n ∧ x = .int .i64 (j : Int) ∧ Below w.heap.size w wr) (fun x _ => n - (intOf x).toNat)
  case atStart => exact ⟨0, by omega, rfl, Below.refl _ _⟩
  case round =>
    obtain ⟨j, hj, rfl, hbel⟩ := hrel
    have PR := Lib.hid (P.out.below hbel)
    have k0 : wr.cell? ⟨h, 0, none⟩ = some (.slice (some ⟨hl, 0, none⟩) n cl) := PR.out.r.cell 0
    have BR := Lib.hid hbel
    clear hbel
    by_cases hlt : j < n
    · obtain ⟨k, hk⟩ : ∃ k, m.readE n (j : Int) = k := ⟨_, rfl⟩
      obtain ⟨X, hX⟩ : ∃ X, m.readS n (j : Int) = X := ⟨_, rfl⟩
      have c1 := Z.read_any (j : Int) PR.out.d OK.out (by omega)
      rw [hk, hX] at c1
      have C1 := Lib.hid c1
      have C2 : Hid (∀ W, Below wr.heap.size wr W → Calls Try.prog 36 #[.pointer (some ⟨h, 0, none⟩), .int .i64 (j : Int)] W fun e w' => e = .returned (.tuple #[.string X, .int .i64 k]) ∧ W = w') := Lib.hid (fun W hW => by
        have := rread_any W h hl hw n cl cw m (j : Int) (PR.out.below hW).r OK.out (by omega)
        rwa [hk, hX] at this)
      clear c1 hk hX
      go_wp2_with (first
        | (go_at_call 18; refine C1.out.mono ?_; rintro e w2 ⟨A2, n3, c2, rfl, own2, b2⟩
           have O2 := Lib.hid own2
           have B2 := Lib.hid b2
           have hcv := run_conv (P := Try.prog) Try.underlying29 Try.underlying5 Try.underlying9 w2.heap.size A2 n3 c2 _ own2.has
           rw [show (⟨(lst X).toArray⟩ : ByteArray) = X from strB_lst X] at hcv
           have HC := Lib.hid hcv
           clear own2 b2 hcv)
        | (go_at_call 36; refine (C2.out _ B2.out).mono ?_; rintro e w3 ⟨rfl, rfl⟩)
        | (refine wpList_convG rfl 29 9 (.tmp 35) rfl _ _ rfl HC.out ?_)
        | (go_at_call 33; refine (spoilx_any _ _ _ _ _ _ O2.out).mono ?_; rintro e w4 ⟨rfl, b4⟩
           have B4 := Lib.hid (BR.out.trans ((B2.out.trans b4).mono BR.out.size))
           clear b4))
      go_roundw
      case rel => exact ⟨j + 1, by omega, by go_num, B4.out⟩
      case measure => simp [intOf]; omega
    · obtain rfl : j = n := by omega
      go_wp2_with fail
      go_ret
      exact ⟨rfl, BR.out⟩
end Go.Proofs.Ytpnmcdpekfibjaa
