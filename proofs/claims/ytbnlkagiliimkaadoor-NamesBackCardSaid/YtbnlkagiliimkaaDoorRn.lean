/-
  Own work. The contract of the document's answer's Number.
-/
import Derived.Test.YtbnlkagiliimkaaDoorNv
import Derived.Deep.DeepCutAuto
namespace Go.Proofs.YtbnlkagiliimkaaDoor
open Go.RowKit
set_option linter.unusedVariables false
set_option linter.unusedSimpArgs false

theorem str_list (l : List UInt8) : (⟨l.toArray⟩ : ByteArray).toList = l := by simp
theorem numE_bad (l : List UInt8) (h : l = [] ∨ l.all isDec = false ∨ (l.headD 0 = 48 ∧ 1 < l.length)) : numE l = 4 := by unfold numE; rw [if_pos h]
theorem numV_bad (l : List UInt8) (h : numE l ≠ 0) : numV l = 0 := by unfold numV; rw [if_neg h]
theorem numE_far (l : List UInt8) (h1 : l ≠ []) (h2 : l.all isDec = true) (h3 : 1 < l.length → l.headD 0 ≠ 48) (h4 : 9223372036854775807 < decV l) : numE l = 2 := by
  unfold numE
  rw [if_neg, if_neg (by omega)]
  rintro (h | h | h)
  · exact h1 h
  · rw [h2] at h; cases h
  · exact h3 h.2 h.1

set_option maxRecDepth 100000 in
set_option maxHeartbeats 2000000 in
theorem rnumber_any (l : List UInt8) (w : World) (hl : l.length ≤ 4294967296) :
    Calls Tryd.prog 16 #[.string ⟨l.toArray⟩] w (RetNum w (numV l) (numE l)) := by
  obtain ⟨S, hS⟩ : ∃ S : ByteArray, S = ⟨l.toArray⟩ := ⟨_, rfl⟩
  have hsz := str_size l S hS
  have hSl : S.toList = l := by rw [hS]; exact str_list l
  rw [← hS]
  have HS := Lib.hid hS
  obtain ⟨n, hn⟩ : ∃ n, l.length = n := ⟨_, rfl⟩
  rw [hn] at hsz hl
  have HN := Lib.hid hn
  clear hS hn
  rcases Nat.eq_zero_or_pos n with hn0 | hn0
  · have hnil : l = [] := List.eq_nil_of_length_eq_zero (by rw [HN.out, hn0])
    have hE := numE_bad l (.inl hnil)
    rw [numV_bad l (by rw [hE]; decide), hE]
    subst hn0
    subst hnil
    go_enter Tryd.func16, Tryd.ntmps16
    go_wp2_with fail
    go_ret2
    exact ⟨rfl, Below.refl _ _⟩
  · have hne : l ≠ [] := by
      rintro rfl
      have := HN.out
      simp at this
      omega
    have hie : S.toList.isEmpty = false := by rw [hSl, List.isEmpty_eq_false_iff]; exact hne
    have hin : ¬ S.toList = [] := by rw [hSl]; exact hne
    obtain ⟨y, hy⟩ : ∃ y, l[0]? = some y := ⟨_, List.getElem?_eq_getElem (by rw [HN.out]; exact hn0)⟩
    have hs0 := fun hj => str_at l 0 y hy S HS.out hj
    have hh : l.headD 0 = y := by
      cases l with
      | nil => simp at hy
      | cons a l => simpa using hy
    have HH := Lib.hid hh
    have HNE := Lib.hid hne
    clear hSl hy hh hne
    go_enter Tryd.func16, Tryd.ntmps16
    go_upto_region 1 with fail
    go_cut [18] (fun s18 wx => s18 = .bool (decide (y.toNat = 48 ∧ 1 < n)) ∧ w = wx)
    case first =>
      by_cases hy48 : y.toNat = 48
      · have q0 : ((y.toNat : Int) == 48) = true := by rw [beq_iff_eq]; omega
        go_wp2_with fail
        go_meet
        refine ⟨congrArg Value.bool ?_, rfl⟩
        rw [decide_eq_decide]
        omega
      · have q0 : ((y.toNat : Int) == 48) = false := by rw [beq_eq_false_iff_ne]; omega
        go_wp2_with fail
        go_meet
        refine ⟨congrArg Value.bool ?_, rfl⟩
        first | rfl | (symm; rw [decide_eq_false_iff_not]; omega)
    case rest =>
      obtain ⟨rfl, rfl⟩ := hcut
      clear hs0
      by_cases hz : y.toNat = 48 ∧ 1 < n
      · have hE := numE_bad l (.inr (.inr ⟨by rw [HH.out]; exact UInt8.toNat_inj.1 hz.1, by rw [HN.out]; exact hz.2⟩))
        have HE := Lib.hid hE
        clear hE
        rw [decide_eq_true hz]
        clear hz
        go_wp2_with fail
        go_ret2
        refine ⟨?_, Below.refl _ _⟩
        rw [numV_bad l (by rw [HE.out]; decide), HE.out]
        rfl
      · have HZ : Hid (1 < l.length → l.headD 0 ≠ 48) := Lib.hid (by
          intro h1 h2
          rw [HH.out] at h2
          rw [HN.out] at h1
          subst h2
          exact hz ⟨rfl, h1⟩)
        rw [decide_eq_false hz]
        clear hz hie hin
        go_wp2_with fail
        go_loopw [4] (fun x wr => ∃ j : Nat, j ≤ n ∧ x = .int .i64 (j : Int) ∧ (l.take j).all isDec = true ∧ wr = w) (fun x _ => n - (intOf x).toNat)
        case atStart => exact ⟨0, by omega, rfl, by simp, rfl⟩
        case round =>
          obtain ⟨j, hj, rfl, hall, rfl⟩ := hrel
          by_cases hlt : j < n
          · obtain ⟨y, hy⟩ : ∃ y, l[j]? = some y := ⟨_, List.getElem?_eq_getElem (by rw [HN.out]; exact hlt)⟩
            have hsj := fun hj => str_at l j y hy S HS.out hj
            have HYJ := Lib.hid hy
            have HA := Lib.hid hall
            clear hy hall
            by_cases q0 : (y.toNat : Int) < 48
            · have hE := numE_bad l (.inr (.inl (all_false HYJ.out (by unfold isDec; rw [decide_eq_false_iff_not]; omega))))
              have HE := Lib.hid hE
              clear hE
              go_wp2_with fail
              go_ret2
              refine ⟨?_, Below.refl _ _⟩
              rw [numV_bad l (by rw [HE.out]; decide), HE.out]
              rfl
            · by_cases q1 : (57 : Int) < (y.toNat : Int)
              · have hE := numE_bad l (.inr (.inl (all_false HYJ.out (by unfold isDec; rw [decide_eq_false_iff_not]; omega))))
                have HE := Lib.hid hE
                clear hE
                go_wp2_with fail
                go_ret2
                refine ⟨?_, Below.refl _ _⟩
                rw [numV_bad l (by rw [HE.out]; decide), HE.out]
                rfl
              · have HC : Hid (isDec y = true) := Lib.hid (by rw [isDec_iff]; omega)
                go_wp2_with fail
                go_roundw
                case rel => exact ⟨j + 1, by omega, by go_num, by rw [all_take HYJ.out, HA.out, HC.out]; rfl, trivial⟩
                case measure => simp [intOf]; omega
          · obtain rfl : j = n := by omega
            rw [List.take_of_length_le (by rw [HN.out]; exact Nat.le_refl _)] at hall
            have HA := Lib.hid hall
            clear hall hlt
            go_wp2_with fail
            go_loopw [5, 6] (fun v x wz => ∃ (k N : Nat), k ≤ j ∧ x = .int .i64 (k : Int) ∧ v = .int .u64 (N : Int) ∧ N = decV (l.take k) ∧ N ≤ 9223372036854775807 ∧ wz = wr) (fun _ x _ => j - (intOf x).toNat)
            case atStart => exact ⟨0, 0, by omega, rfl, rfl, by simp [decV], by omega, rfl⟩
            case round =>
              obtain ⟨k, N, hk, rfl, rfl, hN, hmax, rfl⟩ := hrel
              by_cases hlt : k < j
              · obtain ⟨y, hy⟩ : ∃ y, l[k]? = some y := ⟨_, List.getElem?_eq_getElem (by rw [HN.out]; exact hlt)⟩
                have hsj := fun hj => str_at l k y hy S HS.out hj
                have hdec : 48 ≤ y.toNat ∧ y.toNat ≤ 57 := by
                  have := List.all_eq_true.1 HA.out y (List.mem_of_getElem? hy)
                  exact (isDec_iff y).1 this
                have hsn := decV_take hy
                rw [← hN] at hsn
                have hmo := decV_mono l (k + 1)
                have hNl : N < 10 ^ k := by
                  rw [hN]
                  have h1 : (l.take k).all isDec = true := by
                    rw [List.all_eq_true]
                    intro x hx
                    exact List.all_eq_true.1 HA.out x (List.mem_of_mem_take hx)
                  have h2 := decV_lt (l.take k) h1
                  rw [List.length_take, HN.out, Nat.min_eq_left hk] at h2
                  exact h2
                obtain ⟨e, he⟩ : ∃ e, y.toNat - 48 = e := ⟨_, rfl⟩
                have he9 : e ≤ 9 := by omega
                have hy3 : y.toNat = 48 + e := by omega
                rw [he] at hsn
                have hsu : IntKind.u8.wrap ((y.toNat : Int) - 48) = (e : Int) := by rw [IntKind.wrap_u8]; omega
                have hsu2 : (y.toNat : Int) - 48 = (e : Int) := by omega
                have HSN := Lib.hid hsn
                have HMO := Lib.hid hmo
                have HNl := Lib.hid hNl
                have HNN := Lib.hid hN
                clear hy hsn hmo hNl hN he hdec
                by_cases h18 : 18 < k
                · have hfar := decV_far l HA.out (HZ.out (by rw [HN.out]; omega))
                  by_cases h20 : 20 ≤ j
                  · have hE := numE_far l HNE.out HA.out HZ.out (hfar (by rw [HN.out]; exact h20))
                    have HE := Lib.hid hE
                    clear hE
                    clear hfar
                    go_wp2_with fail
                    go_ret2
                    refine ⟨?_, Below.refl _ _⟩
                    rw [numV_bad l (by rw [HE.out]; decide), HE.out]
                    rfl
                  · exact absurd h20 (by omega)
                · have hp : 10 ^ k ≤ 10 ^ 18 := Nat.pow_le_pow_right (by omega) (by omega)
                  have hN18 : N ≤ 999999999999999999 := by have := HNl.out; omega
                  clear hp
                  by_cases hbig : 9223372036854775807 < N * 10 + e
                  · have hE := numE_far l HNE.out HA.out HZ.out (by have := HSN.out; have := HMO.out; omega)
                    have HE := Lib.hid hE
                    clear hE
                    have hb2 : (9223372036854775807 : Int) < (N : Int) * 10 + (e : Int) := by omega
                    go_wp2_with fail
                    go_ret2
                    refine ⟨?_, Below.refl _ _⟩
                    rw [numV_bad l (by rw [HE.out]; decide), HE.out]
                    rfl
                  · have hb2 : ¬ (9223372036854775807 : Int) < (N : Int) * 10 + (e : Int) := by omega
                    go_wp2_with fail
                    go_roundw
                    case rel => exact ⟨k + 1, N * 10 + e, by omega, by go_num, by go_num, HSN.out.symm, by omega, trivial⟩
                    case measure => simp [intOf]; omega
              · obtain rfl : k = j := by omega
                rw [List.take_of_length_le (by rw [HN.out]; exact Nat.le_refl _)] at hN
                have hE := (numE_ok l).2 ⟨HNE.out, HA.out, HZ.out, by omega⟩
                have hV : numV l = N := by unfold numV; rw [if_pos hE, hN]
                have HE := Lib.hid hE
                have HV := Lib.hid hV
                clear hE hV hN
                go_wp2_with fail
                go_ret2
                refine ⟨?_, Below.refl _ _⟩
                rw [HE.out, HV.out]
                rfl
end Go.Proofs.YtbnlkagiliimkaaDoor
