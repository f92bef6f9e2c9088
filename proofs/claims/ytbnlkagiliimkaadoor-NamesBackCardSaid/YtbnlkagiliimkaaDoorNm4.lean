/-
  Own work. The contract of names' Print, over the table that the number's digits are told by.
-/
import Derived.Test.YtbnlkagiliimkaaDoorNm3
import Derived.Test.YtbnlkagiliimkaaDoorLay
namespace Go.Proofs.YtbnlkagiliimkaaDoor
open Go.RowKit
set_option linter.unusedVariables false
set_option linter.unusedSimpArgs false

/-- The table of tens reads so, here and in each later world. -/
def TabW (w : World) : Prop := Lib.TabBelow Tryd.prog w.heap.size w "internal/strconv.uint64pow10" .u64 Lib.pow10Tab
theorem TabW.on {w W : World} (h : TabW w) (hb : Below w.heap.size w W) : TabW W := fun w' h' => h w' (hb.trans (h'.mono hb.size))
theorem TabW.alloc {w : World} (h : TabW w) (o : Obj) : TabW (w.alloc o) := h.on ((Below.refl _ _).alloc (Nat.le_refl _) o)

theorem itoa_prt (v : Int) : Lib.itoa v = prtL v := by
  have hd : ∀ m : Nat, Lib.decDigits m = decL m := by
    intro m
    induction m using Nat.strongRecOn with
    | ind m ih =>
      rw [Lib.decDigits, decL]
      by_cases h : m < 10
      · rw [dif_pos h, if_pos h]
      · rw [dif_neg h, if_neg h, ih (m / 10) (by omega)]
  unfold Lib.itoa prtL
  by_cases h : v < 0
  · rw [if_pos h, if_pos h, hd]
    rfl
  · rw [if_neg h, if_neg h, hd, show v.toNat = v.natAbs by omega]
    rfl

set_option maxRecDepth 100000 in
theorem print_any (v : Int) (w : World) (hv : -9223372036854775808 ≤ v ∧ v ≤ 9223372036854775807) (ht : Lib.TabIs Tryd.prog w "internal/strconv.uint64pow10" .u64 Lib.pow10Tab) : Calls Tryd.prog 21 #[.int .i64 v] w (RetStr w (prtL v)) := by
  have c := Any.strconv_FormatInt_10 lays173 v hv.1 hv.2 w ht
  rw [itoa_prt] at c
  obtain ⟨X, hX⟩ : ∃ X : ByteArray, (⟨(prtL v).toArray⟩ : ByteArray) = X := ⟨_, rfl⟩
  unfold RetStr
  rw [hX] at c ⊢
  have C : Calls Tryd.prog 30 #[.int .i64 v, .int .i64 10] w fun e w' => e = .returned (.string X) ∧ Below w.heap.size w w' := by
    refine Calls.mono c ?_
    rintro e w' ⟨rfl, k, os, rfl⟩
    exact ⟨rfl, Lib.below_grow _ _ (Nat.le_refl _) k os⟩
  have HC := Lib.hid C
  clear c C hX ht hv
  go_enter Tryd.func21, Tryd.ntmps21
  go_wp2_with (go_at_call 30; refine HC.out.mono ?_; rintro e w1 ⟨rfl, b1⟩)
  go_ret
  exact ⟨rfl, b1⟩
end Go.Proofs.YtbnlkagiliimkaaDoor
