/-
  Own work. The contracts of names' Number and Print.
-/
import Derived.Test.YtbnlkagiliimkaaDoorNm1
import Derived.Shelf.Lay
import Derived.Shelf.Strconv.Itoa4
import Derived.Lib.AppendIntMem
namespace Go.Proofs.YtbnlkagiliimkaaDoor
open Go.RowKit
open Go.Shelf
set_option linter.unusedVariables false
set_option linter.unusedSimpArgs false

theorem str_one (l : List UInt8) (n : Nat) (hn : l.length = n) (y : UInt8) (hh : l.headD 0 = y) (hy : y.toNat = 48) (S : ByteArray) (hS : S.toList = l) : S.toList = [48] ↔ n = 1 := by
  rw [hS]
  constructor
  · rintro rfl
    exact hn.symm
  · rintro rfl
    match l, hn with
    | [a], _ =>
      have : a = 48 := UInt8.toNat_inj.1 (by rw [← hh] at hy; simpa using hy)
      rw [this]

set_option maxRecDepth 100000 in
set_option maxHeartbeats 2000000 in
theorem number_any (l : List UInt8) (w : World) (hl : l.length ≤ 1073741824) : Calls Tryd.prog 15 #[.string ⟨l.toArray⟩] w (RetNum w (numV l) (numE l)) := by
  have CA := fun W => allDigits_any l 10 (by omega) W (by omega)
  have hfun : (l.all fun c => decide (wthE c < 10)) = l.all isDec := by
    congr 1
    funext c
    rw [wth_dec]
  rw [hfun] at CA
  obtain ⟨S, hS⟩ : ∃ S : ByteArray, S = ⟨l.toArray⟩ := ⟨_, rfl⟩
  have hsz := str_size l S hS
  have hSl : S.toList = l := by rw [hS]; exact str_list l
  rw [← hS] at CA ⊢
  have HS := Lib.hid hS
  obtain ⟨n, hn⟩ : ∃ n, l.length = n := ⟨_, rfl⟩
  rw [hn] at hsz hl
  have HN := Lib.hid hn
  clear hS hn hfun
  rcases Nat.eq_zero_or_pos n with hn0 | hn0
  · have hnil : l = [] := List.eq_nil_of_length_eq_zero (by rw [HN.out, hn0])
    have hE := numE_bad l (.inl hnil)
    rw [numV_bad l (by rw [hE]; decide), hE]
    subst hn0
    have hS0 := HS.out
    rw [hnil] at hS0
    subst hS0
    clear CA HS hSl
    go_enter Tryd.func15, Tryd.ntmps15
    go_wp2_with fail
    go_ret2
    exact ⟨rfl, Below.refl _ _⟩
  · have hne : l ≠ [] := by
      rintro rfl
      have := HN.out
      simp at this
      omega
    have hie : S.toList.isEmpty = false := by rw [hSl, List.isEmpty_eq_false_iff]; exact hne
    have hin : ¬ S.toList = [] := by rw [hSl]; exact hne
    obtain ⟨y, hy⟩ : ∃ y, l[0]? = some y := ⟨_, List.getElem?_eq_getElem (by rw [HN.out]; exact hn0)⟩
    have hs0 := fun hj => str_at l 0 y hy S HS.out hj
    have hh : l.headD 0 = y := by
      cases l with
      | nil => simp at hy
      | cons a l => simpa using hy
    have HH := Lib.hid hh
    have HNE := Lib.hid hne
    clear hSl hy hh hne
    cases hall : l.all isDec with
    | false =>
      have hE := numE_bad l (.inr (.inl hall))
      have HE := Lib.hid hE
      rw [hall] at CA
      have C := Lib.hid CA
      clear hE CA hall hs0
      go_enter Tryd.func15, Tryd.ntmps15
      go_wp2_with (go_at_call 26; refine (C.out _).mono ?_; rintro e w3 ⟨rfl, rfl⟩)
      go_ret2
      refine ⟨?_, Below.refl _ _⟩
      rw [numV_bad l (by rw [HE.out]; decide), HE.out]
      rfl
    | true =>
      have HA := Lib.hid hall
      rw [hall] at CA
      have C := Lib.hid CA
      clear CA hall
      go_enter Tryd.func15, Tryd.ntmps15
      go_upto_region 1 with fail
      go_cut [22] (fun s22 wx => s22 = .bool (decide (y.toNat = 48 ∧ 1 < n)) ∧ w = wx)
      case first =>
        by_cases hy48 : y.toNat = 48
        · have q0 : ((y.toNat : Int) == 48) = true := by rw [beq_iff_eq]; omega
          have h1 := str_one l n HN.out y HH.out hy48 S (by rw [HS.out]; exact str_list l)
          by_cases h2 : n = 1
          · have h3 : S.toList = [48] := h1.2 h2
            have h4 : (S.toList == [48]) = true := by rw [beq_iff_eq]; exact h3
            have HD : Hid (decide (y.toNat = 48 ∧ 1 < n) = false) := Lib.hid (decide_eq_false (by omega))
            clear h1 h2 h3 hy48
            go_wp2_with (go_at_call 26; refine (C.out _).mono ?_; rintro e w3 ⟨rfl, rfl⟩)
            go_meet
            exact ⟨by rw [HD.out]; first | done | (simp [h4]; done) | rfl, rfl⟩
          · have h3 : ¬ S.toList = [48] := fun e => h2 (h1.1 e)
            have h4 : (S.toList == [48]) = false := by rw [beq_eq_false_iff_ne]; exact h3
            have HD : Hid (decide (y.toNat = 48 ∧ 1 < n) = true) := Lib.hid (decide_eq_true (by omega))
            clear h1 h2 hy48
            go_wp2_with (go_at_call 26; refine (C.out _).mono ?_; rintro e w3 ⟨rfl, rfl⟩)
            go_meet
            exact ⟨by rw [HD.out], rfl⟩
        · have q0 : ((y.toNat : Int) == 48) = false := by rw [beq_eq_false_iff_ne]; omega
          have HD : Hid (decide (y.toNat = 48 ∧ 1 < n) = false) := Lib.hid (decide_eq_false (by omega))
          go_wp2_with (go_at_call 26; refine (C.out _).mono ?_; rintro e w3 ⟨rfl, rfl⟩)
          go_meet
          exact ⟨by rw [HD.out], rfl⟩
      case rest =>
        obtain ⟨rfl, rfl⟩ := hcut
        clear hs0 hie hin C
        by_cases hz : y.toNat = 48 ∧ 1 < n
        · have hE := numE_bad l (.inr (.inr ⟨by rw [HH.out]; exact UInt8.toNat_inj.1 hz.1, by rw [HN.out]; exact hz.2⟩))
          have HE := Lib.hid hE
          clear hE
          rw [decide_eq_true hz]
          clear hz
          go_wp2_with fail
          go_ret2
          refine ⟨?_, Below.refl _ _⟩
          rw [numV_bad l (by rw [HE.out]; decide), HE.out]
          rfl
        · have HZ : Hid (1 < l.length → l.headD 0 ≠ 48) := Lib.hid (by
            intro h1 h2
            rw [HH.out] at h2
            rw [HN.out] at h1
            subst h2
            exact hz ⟨rfl, h1⟩)
          rw [decide_eq_false hz]
          clear hz
          go_wp2_with fail
          go_loopw [4, 25] (fun v x wz => ∃ (k N : Nat), k ≤ n ∧ x = .int .i64 (k : Int) ∧ v = .int .i64 (N : Int) ∧ N = decV (l.take k) ∧ N ≤ 9223372036854775807 ∧ wz = w) (fun _ x _ => n - (intOf x).toNat)
          case atStart => exact ⟨0, 0, by omega, rfl, rfl, by simp [decV], by omega, rfl⟩
          case round =>
            obtain ⟨k, N, hk, rfl, rfl, hN, hmax, rfl⟩ := hrel
            by_cases hlt : k < n
            · obtain ⟨y, hy⟩ : ∃ y, l[k]? = some y := ⟨_, List.getElem?_eq_getElem (by rw [HN.out]; exact hlt)⟩
              have hsj := fun hj => str_at l k y hy S HS.out hj
              have hyd : isDec y = true := List.all_eq_true.1 HA.out y (List.mem_of_getElem? hy)
              have hdec := (isDec_iff y).1 hyd
              rw [wth_dec, decide_eq_true_iff] at hyd
              have hw : wthE y = y.toNat - 48 := by unfold wthE; rw [if_pos hdec]
              have hsn := decV_take hy
              rw [← hN, ← hw] at hsn
              have hmo := decV_mono l (k + 1)
              have cw := worth_any y
              obtain ⟨e, he⟩ : ∃ e, wthE y = e := ⟨_, rfl⟩
              rw [he] at hyd hsn cw
              have HSN := Lib.hid hsn
              have HMO := Lib.hid hmo
              have HNN := Lib.hid hN
              have CW := Lib.hid cw
              clear hy hsn hmo hN he hw hdec cw
              by_cases hbig : 9223372036854775807 < N * 10 + e
              · have hE := numE_far l HNE.out HA.out HZ.out (by have := HSN.out; have := HMO.out; omega)
                have HE := Lib.hid hE
                clear hE
                have hb2 : (9223372036854775807 - (e : Int)) / 10 < (N : Int) := by omega
                go_wp2_with (go_at_call 27; refine (CW.out _).mono ?_; rintro e w3 ⟨rfl, rfl⟩)
                go_ret2
                refine ⟨?_, Below.refl _ _⟩
                rw [numV_bad l (by rw [HE.out]; decide), HE.out]
                rfl
              · have hb2 : ¬ (9223372036854775807 - (e : Int)) / 10 < (N : Int) := by omega
                go_wp2_with (go_at_call 27; refine (CW.out _).mono ?_; rintro e w3 ⟨rfl, rfl⟩)
                go_roundw
                case rel => exact ⟨k + 1, N * 10 + e, by omega, by go_num, by go_num, HSN.out.symm, by omega, trivial⟩
                case measure => simp [intOf]; omega
            · obtain rfl : k = n := by omega
              rw [List.take_of_length_le (by rw [HN.out]; exact Nat.le_refl _)] at hN
              have hE := (numE_ok l).2 ⟨HNE.out, HA.out, HZ.out, by omega⟩
              have hV : numV l = N := by unfold numV; rw [if_pos hE, hN]
              have HE := Lib.hid hE
              have HV := Lib.hid hV
              clear hE hV hN
              go_wp2_with fail
              go_ret2
              refine ⟨?_, Below.refl _ _⟩
              rw [HE.out, HV.out]
              rfl
end Go.Proofs.YtbnlkagiliimkaaDoor
