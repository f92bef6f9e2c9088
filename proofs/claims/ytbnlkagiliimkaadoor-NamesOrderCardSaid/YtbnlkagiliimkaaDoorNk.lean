/-
  The laws NamesOrder, NamesReads and NamesBack walked, over the contracts of names' functions.
-/
import Derived.Test.YtbnlkagiliimkaaDoorNl
import Derived.Test.YtbnlkagiliimkaaDoorLaw0
namespace Go.Proofs.YtbnlkagiliimkaaDoor
open Go.RowKit
set_option linter.unusedVariables false
set_option linter.unusedSimpArgs false

theorem numE_cases (l : List UInt8) : numE l = 0 ∨ numE l = 2 ∨ numE l = 4 := by
  unfold numE
  split
  · exact .inr (.inr rfl)
  · split
    · exact .inl rfl
    · exact .inr (.inl rfl)
theorem numV_eq {l : List UInt8} (h : numE l = 0) : numV l = decV l := by unfold numV; rw [if_pos h]

set_option maxRecDepth 100000 in
set_option maxHeartbeats 1000000 in
theorem order_law (a b : List UInt8) (w : World) (tabw : TabW w) (ha : a.length ≤ 9223372036854775807) (hb : b.length ≤ 9223372036854775807) : Calls Tryd.prog 7 #[.string ⟨a.toArray⟩, .string ⟨b.toArray⟩] w (RetTrue w) := by
  obtain ⟨S, hS⟩ : ∃ S : ByteArray, S = ⟨a.toArray⟩ := ⟨_, rfl⟩
  obtain ⟨T, hT⟩ : ∃ T : ByteArray, T = ⟨b.toArray⟩ := ⟨_, rfl⟩
  have sz1 := str_size a S hS
  have sz2 := str_size b T hT
  obtain ⟨n, hn⟩ : ∃ n, a.length = n := ⟨_, rfl⟩
  obtain ⟨m, hm⟩ : ∃ m, b.length = m := ⟨_, rfl⟩
  rw [hn] at sz1 ha
  rw [hm] at sz2 hb
  by_cases h1 : 64 < n
  · rw [← hS, ← hT]
    clear hS hT hn hm
    go_enter Tryd.func7, Tryd.ntmps7
    go_wp2_with (go_at_call 8; refine (begun_any _ tabw).mono ?_; rintro e w1 ⟨rfl, b1⟩)
    go_ret
    exact ⟨rfl, b1⟩
  · by_cases h2 : 64 < m
    · rw [← hS, ← hT]
      clear hS hT hn hm
      go_enter Tryd.func7, Tryd.ntmps7
      go_wp2_with (go_at_call 8; refine (begun_any _ tabw).mono ?_; rintro e w1 ⟨rfl, b1⟩)
      go_ret
      exact ⟨rfl, b1⟩
    · have c1 := fun W => number_any a W (by omega)
      have c2 := fun W => number_any b W (by omega)
      have ea := numE_cases a
      have eb := numE_cases b
      have hor := fun h1 h2 => order_dec a b h1 h2
      have va := @numV_eq a
      have vb := @numV_eq b
      have hless : ∀ W, (Op.stringOp .lss S T).run Tryd.prog W = .ok (.bool (Op.bytesLess a b)) W := fun W => by rw [hS, hT]; simp [Op.stringOp]
      have hTL1 : S.toList = a := by rw [hS]; simp
      have hTL2 : T.toList = b := by rw [hT]; simp
      rw [← hS] at c1 ⊢
      rw [← hT] at c2 ⊢
      rw [hn, hm] at hor
      obtain ⟨x, hx⟩ : ∃ x, numV a = x := ⟨_, rfl⟩
      obtain ⟨y, hy⟩ : ∃ y, numV b = y := ⟨_, rfl⟩
      obtain ⟨p, hp⟩ : ∃ p, numE a = p := ⟨_, rfl⟩
      obtain ⟨q, hq⟩ : ∃ q, numE b = q := ⟨_, rfl⟩
      rw [hx, hp] at c1
      rw [hy, hq] at c2
      rw [hx, hp] at va
      rw [hy, hq] at vb
      rw [hp] at ea hor
      rw [hq] at eb hor
      have C1 := Lib.hid c1
      have C2 := Lib.hid c2
      have HV := Lib.hid va
      have HW := Lib.hid vb
      have HO := Lib.hid hor
      clear c1 c2 hx hy hp hq hS hT hn hm va vb hor
      by_cases hp0 : p = 0
      · by_cases hq0 : q = 0
        · subst hp0
          subst hq0
          have hor := HO.out rfl rfl
          rw [← HV.out rfl, ← HW.out rfl] at hor
          obtain ⟨r, hr⟩ : ∃ r, Op.bytesLess a b = r := ⟨_, rfl⟩
          rw [hr] at hor
          have hor2 : decide ((x : Int) < (y : Int)) = (decide (n < m) || (decide (n = m) && r)) := by
            rw [← hor, decide_eq_decide]
            omega
          have HO2 := Lib.hid hor2
          obtain ⟨u, hu⟩ : ∃ u, decide ((x : Int) < (y : Int)) = u := ⟨_, rfl⟩
          rw [hu] at hor2
          have hr2 : Op.bytesLess S.toList T.toList = r := by rw [hTL1, hTL2]; exact hr
          clear hr hor ea eb hless hTL1 hTL2
          rcases Nat.lt_trichotomy n m with hlt | hlt | hlt
          · have k1 : (n : Int) < (m : Int) := by omega
            have hu1 : u = true := by rw [hor2, decide_eq_true hlt]; rfl
            subst hu1
            have hxy : (x : Int) < (y : Int) := of_decide_eq_true hu
            clear hor2 hu
            go_enter Tryd.func7, Tryd.ntmps7
            go_wp2_with (first
              | (go_at_call 8; refine (begun_any _ tabw).mono ?_; rintro e w1 ⟨rfl, b1⟩
                 have B1 := Lib.hid b1
                 clear b1)
              | (go_at_call 15; refine (C2.out w2).mono ?_; rintro e w3 ⟨rfl, b3⟩
                 have B3 := Lib.hid (B2.out.trans (b3.mono B2.out.size))
                 clear b3)
              | (go_at_call 15; refine (C1.out _).mono ?_; rintro e w2 ⟨rfl, b2⟩
                 have B2 := Lib.hid (B1.out.trans (b2.mono B1.out.size))
                 clear b2))
            go_ret
            exact ⟨rfl, B3.out⟩
          · have k1 : ¬ (n : Int) < (m : Int) := by omega
            have hu1 : u = r := by rw [hor2, decide_eq_false (by omega : ¬ n < m), decide_eq_true hlt]; cases r <;> rfl
            subst hu1
            subst hlt
            clear hor2
            cases u with
            | true =>
              have hxy : (x : Int) < (y : Int) := of_decide_eq_true hu
              clear hu
              go_enter Tryd.func7, Tryd.ntmps7
              go_wp2_with (first
                | (go_at_call 8; refine (begun_any _ tabw).mono ?_; rintro e w1 ⟨rfl, b1⟩
                   have B1 := Lib.hid b1
                   clear b1)
                | (go_at_call 15; refine (C2.out w2).mono ?_; rintro e w3 ⟨rfl, b3⟩
                   have B3 := Lib.hid (B2.out.trans (b3.mono B2.out.size))
                   clear b3)
                | (go_at_call 15; refine (C1.out _).mono ?_; rintro e w2 ⟨rfl, b2⟩
                   have B2 := Lib.hid (B1.out.trans (b2.mono B1.out.size))
                   clear b2))
              go_ret
              exact ⟨rfl, B3.out⟩
            | false =>
              have hxy : ¬ (x : Int) < (y : Int) := of_decide_eq_false hu
              have hxn : ¬ x < y := by omega
              have hxd : decide (x < y) = false := decide_eq_false hxn
              clear hu
              go_enter Tryd.func7, Tryd.ntmps7
              go_wp2_with (first
                | (go_at_call 8; refine (begun_any _ tabw).mono ?_; rintro e w1 ⟨rfl, b1⟩
                   have B1 := Lib.hid b1
                   clear b1)
                | (go_at_call 15; refine (C2.out w2).mono ?_; rintro e w3 ⟨rfl, b3⟩
                   have B3 := Lib.hid (B2.out.trans (b3.mono B2.out.size))
                   clear b3)
                | (go_at_call 15; refine (C1.out _).mono ?_; rintro e w2 ⟨rfl, b2⟩
                   have B2 := Lib.hid (B1.out.trans (b2.mono B1.out.size))
                   clear b2))
              go_ret
              exact ⟨rfl, B3.out⟩
          · have k1 : ¬ (n : Int) < (m : Int) := by omega
            have k2 : ((n : Int) == (m : Int)) = false := by rw [beq_eq_false_iff_ne]; omega
            have k4 : ¬ n < m := by omega
            have k5 : decide (n < m) = false := decide_eq_false k4
            have k3 : (n == m) = false := by rw [beq_eq_false_iff_ne]; omega
            have hu1 : u = false := by rw [hor2, decide_eq_false (by omega : ¬ n < m), decide_eq_false (by omega : ¬ n = m)]; rfl
            subst hu1
            have hxy : ¬ (x : Int) < (y : Int) := of_decide_eq_false hu
            have hxn : ¬ x < y := by omega
            have hxd : decide (x < y) = false := decide_eq_false hxn
            clear hor2 hu
            go_enter Tryd.func7, Tryd.ntmps7
            go_wp2_with (first
              | (go_at_call 8; refine (begun_any _ tabw).mono ?_; rintro e w1 ⟨rfl, b1⟩
                 have B1 := Lib.hid b1
                 clear b1)
              | (go_at_call 15; refine (C2.out w2).mono ?_; rintro e w3 ⟨rfl, b3⟩
                 have B3 := Lib.hid (B2.out.trans (b3.mono B2.out.size))
                 clear b3)
              | (go_at_call 15; refine (C1.out _).mono ?_; rintro e w2 ⟨rfl, b2⟩
                 have B2 := Lib.hid (B1.out.trans (b2.mono B1.out.size))
                 clear b2))
            go_ret
            exact ⟨rfl, B3.out⟩
        · subst hp0
          clear ea hless hTL1 hTL2
          rcases eb with rfl | rfl | rfl
          · exact absurd rfl hq0
          · clear hq0
            go_enter Tryd.func7, Tryd.ntmps7
            go_wp2_with (first
              | (go_at_call 8; refine (begun_any _ tabw).mono ?_; rintro e w1 ⟨rfl, b1⟩
                 have B1 := Lib.hid b1
                 clear b1)
              | (go_at_call 15; refine (C2.out w2).mono ?_; rintro e w3 ⟨rfl, b3⟩
                 have B3 := Lib.hid (B2.out.trans (b3.mono B2.out.size))
                 clear b3)
              | (go_at_call 15; refine (C1.out _).mono ?_; rintro e w2 ⟨rfl, b2⟩
                 have B2 := Lib.hid (B1.out.trans (b2.mono B1.out.size))
                 clear b2))
            go_ret
            exact ⟨rfl, B3.out⟩
          · clear hq0
            go_enter Tryd.func7, Tryd.ntmps7
            go_wp2_with (first
              | (go_at_call 8; refine (begun_any _ tabw).mono ?_; rintro e w1 ⟨rfl, b1⟩
                 have B1 := Lib.hid b1
                 clear b1)
              | (go_at_call 15; refine (C2.out w2).mono ?_; rintro e w3 ⟨rfl, b3⟩
                 have B3 := Lib.hid (B2.out.trans (b3.mono B2.out.size))
                 clear b3)
              | (go_at_call 15; refine (C1.out _).mono ?_; rintro e w2 ⟨rfl, b2⟩
                 have B2 := Lib.hid (B1.out.trans (b2.mono B1.out.size))
                 clear b2))
            go_ret
            exact ⟨rfl, B3.out⟩
      · clear eb hless hTL1 hTL2
        rcases ea with rfl | rfl | rfl
        · exact absurd rfl hp0
        · clear hp0
          go_enter Tryd.func7, Tryd.ntmps7
          go_wp2_with (first
            | (go_at_call 8; refine (begun_any _ tabw).mono ?_; rintro e w1 ⟨rfl, b1⟩
               have B1 := Lib.hid b1
               clear b1)
            | (go_at_call 15; refine (C2.out w2).mono ?_; rintro e w3 ⟨rfl, b3⟩
               have B3 := Lib.hid (B2.out.trans (b3.mono B2.out.size))
               clear b3)
            | (go_at_call 15; refine (C1.out _).mono ?_; rintro e w2 ⟨rfl, b2⟩
               have B2 := Lib.hid (B1.out.trans (b2.mono B1.out.size))
               clear b2))
          go_ret
          exact ⟨rfl, B3.out⟩
        · clear hp0
          go_enter Tryd.func7, Tryd.ntmps7
          go_wp2_with (first
            | (go_at_call 8; refine (begun_any _ tabw).mono ?_; rintro e w1 ⟨rfl, b1⟩
               have B1 := Lib.hid b1
               clear b1)
            | (go_at_call 15; refine (C2.out w2).mono ?_; rintro e w3 ⟨rfl, b3⟩
               have B3 := Lib.hid (B2.out.trans (b3.mono B2.out.size))
               clear b3)
            | (go_at_call 15; refine (C1.out _).mono ?_; rintro e w2 ⟨rfl, b2⟩
               have B2 := Lib.hid (B1.out.trans (b2.mono B1.out.size))
               clear b2))
          go_ret
          exact ⟨rfl, B3.out⟩
end Go.Proofs.YtbnlkagiliimkaaDoor
