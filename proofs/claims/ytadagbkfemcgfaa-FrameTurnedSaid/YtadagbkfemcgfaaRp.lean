/-
  Own work. The contract of cofferref1's Put.
-/
import Derived.Test.YtadagbkfemcgfaaG1
namespace Go.Proofs.Ytadagbkfemcgfaa
open Go.RowKit
set_option linter.unusedVariables false
set_option linter.unusedSimpArgs false

theorem OwnB.one (w : World) (base : Nat) (x : Int) (b : UInt8) (hx : x = (b.toNat : Int)) (hb : base ≤ w.heap.size) : OwnB (w.alloc (.cells #[.int .u8 x] 5)) base (.slice (some ⟨w.heap.size, 0, none⟩) 1 1) [b] := by
  subst hx
  exact ⟨by simp [cellsB], .inr ⟨w.heap.size, 1, _, rfl, hb, heap_alloc_new w _, by simp, by simp [maxLen], by simp, by simp [cellsB]⟩⟩

theorem v_div (v j : Nat) : v / 256 ^ j / 256 = v / 256 ^ (j + 1) := by rw [Nat.pow_succ, Nat.div_div_eq_div_mul]
theorem put_room (l m : List UInt8) (n : Nat) (h : n = l.length) (hn : n ≤ 1073741824) (hm : m.length ≤ 8) : ([] ++ l : List UInt8).length + m.length ≤ 140737488355328 := by simp; omega

set_option maxHeartbeats 1000000 in
set_option maxRecDepth 100000 in
theorem rput_any (A : Option Addr) (l : List UInt8) (n c v : Nat) (k : Int) (w : World) (h : HasB w w.heap.size A n l) (hn : n ≤ 1073741824) (hv : v < 18446744073709551616) (hk : -9223372036854775808 ≤ k ∧ k ≤ 9223372036854775807) :
    Calls Try.prog 34 #[.slice A n c, .int .u64 (v : Int), .int .i64 k] w (RetBE w (putL l v k) (putE v k)) := by
  have hcases := putE_cases v k hk
  obtain ⟨hk1, hk2⟩ := hk
  rcases hcases with ⟨he, hno⟩ | ⟨K, rfl, h1, h8, hfit⟩
  · have hL : putL l v k = [] := by unfold putL; rw [he]; rfl
    rw [he, hL]
    clear he hL h
    by_cases hlo : k < 1
    all_goals
      have hhi : k < 1 ∨ 8 < k := by omega
      clear hno
      go_enter Try.func34, Try.ntmps34
      go_wp2_with fail
      go_ret2
      exact ⟨none, 0, 0, rfl, OwnB.nil _ _, Below.refl _ _⟩
  · have hl := h.len
    have HL := Lib.hid hl
    have HF := Lib.hid hfit
    clear hl hfit
    go_enter Try.func34, Try.ntmps34
    go_wp2_with fail
    go_loopw [1, 8, 9] (fun y s x wr => ∃ (A' : Option Addr) (n' c' j : Nat), y = .int .u64 ((v / 256 ^ j : Nat) : Int) ∧ s = .slice A' n' c' ∧ x = .int .i64 (j : Int) ∧ j ≤ K ∧ OwnB wr w.heap.size (.slice A' n' c') (be j v) ∧ Below w.heap.size w wr) (fun _ _ x _ => K - (intOf x).toNat)
    case atStart => exact ⟨none, 0, 0, 0, by simp, rfl, rfl, by omega, OwnB.nil _ _, Below.refl _ _⟩
    case round =>
      obtain ⟨A', n', c', j, rfl, rfl, rfl, hj, hown, hbel⟩ := hrel
      have hsz := hbel.size
      have hvj : v / 256 ^ j ≤ v := Nat.div_le_self _ _
      have hdiv := v_div v j
      by_cases hlt : j < K
      · have hbc := be_cons j v
        have HBC := Lib.hid hbc
        have HD := Lib.hid hdiv
        clear hdiv hbc
        generalize v / 256 ^ j = q at *
        go_wp2_with (at_builtin; refine wp_app rfl _ _ rfl Try.underlying24 infoU8 w.heap.size _ [UInt8.ofNat q] (be j v) rfl (OwnB.one wr w.heap.size _ _ ?hx1 hsz) _ A' n' c' rfl (hown.has.alloc (Nat.le_refl _) _) (by rw [be_length, List.length_singleton]; omega) (Nat.le_trans hsz (by simp)) ?_; rotate_right; intro A2 n2 c2 w2 hown2 hg2 hb2)
        case hx1 => first | (rw [u8_of]; done) | (rw [u8_of]; omega)
        go_roundw
        case rel => exact ⟨A2, n2, c2, j + 1, by rw [← HD.out]; go_num, rfl, by go_num, by omega, by rw [HBC.out]; exact hown2, (hbel.alloc hsz _).trans hb2⟩
        case measure => simp [intOf]; omega
      · obtain rfl : j = K := by omega
        rcases HF.out with ⟨he, hnf⟩ | ⟨he, hf⟩
        · have hL : putL l v (j : Int) = [] := by unfold putL; rw [he]; rfl
          have hp : 0 < 256 ^ j := Nat.pow_pos (by omega)
          have hq : 1 ≤ v / 256 ^ j := (Nat.le_div_iff_mul_le hp).2 (by omega)
          have HE := Lib.hid he
          have HLL := Lib.hid hL
          clear he hL hnf hp hdiv
          generalize v / 256 ^ j = q at *
          go_wp2_with fail
          go_ret2
          rw [HE.out, HLL.out]
          exact ⟨none, 0, 0, rfl, OwnB.nil _ _, hbel⟩
        · have hL : putL l v (j : Int) = l ++ be j v := by unfold putL; rw [he, if_pos rfl, Int.toNat_natCast]
          have hq : v / 256 ^ j = 0 := Nat.div_eq_of_lt hf
          have HE := Lib.hid he
          have HLL := Lib.hid hL
          have h0 := h.below hbel
          have hbl : (be j v).length ≤ 8 := by rw [be_length]; omega
          have HB := Lib.hid hbl
          rw [hq]
          clear he hL hf hq hdiv hvj hbl
          go_wp2_with (first
            | (at_builtin; refine wp_app rfl (.tmp 31) (.tmp 32) rfl Try.underlying24 infoU8 wr.heap.size _ [] l rfl (OwnB.empty wr) _ A n c rfl (h0.alloc hsz _) (by rw [← HL.out, List.length_nil]; omega) (by simp) ?_; intro A2 n2 c2 w2 hown2' hg2 hb2
               have hown2 := hown2'.less hsz
               have hb3 : Below wr.heap.size wr w2 := ((Below.refl _ _).alloc (Nat.le_refl _) _).trans hb2
               have hb2' : Below w.heap.size w w2 := hbel.trans (hb3.mono hsz))
            | (at_builtin; refine wp_app rfl (.tmp 33) (.tmp 34) rfl Try.underlying24 infoU8 w.heap.size _ _ (be j v) rfl hown2 _ A' n' c' rfl ((hown.below hb3).has) (put_room l _ n HL.out hn HB.out) hb2'.size ?_; intro A3 n3 c3 w3 hown3 hg3 hb4))
          go_ret2
          rw [HE.out, HLL.out]
          exact ⟨A3, n3, c3, rfl, hown3, hb2'.trans hb4⟩
end Go.Proofs.Ytadagbkfemcgfaa
