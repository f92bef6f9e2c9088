/-
  Own work. The contracts of names' May and Hex.
-/
import Derived.Test.YtbnlkagiliimkaaDoorNa
import Derived.Test.YtbnlkagiliimkaaDoorRn
namespace Go.Proofs.YtbnlkagiliimkaaDoor
open Go.RowKit
set_option linter.unusedVariables false
set_option linter.unusedSimpArgs false

/-- make([]byte, 0, n). -/
theorem wp_mk0 {P : Program} (w : World) {ops : Array Oper} {rest : List Oper} {o : Oper} {a : Act} {Q : Exit → Act → World → Prop} (hg : o.guard = none) (l c : Operand) (hop : o.op = Op.makeSlice 24 l c)
    (ht : P.underlying 24 = some (.slice 5)) (hi0 : (P.info? 5).map (fun i => (i.zero, i.size, i.bytes)) = some (some (.int .u8 0), 1, 1))
    (base : Nat) (kl kc : IntKind) (C : Int) (n : Nat) (hl : a.eval l = .int kl 0) (hc : a.eval c = .int kc C) (hC : C = (n : Int)) (hn : n ≤ 1099511627776) (hb : base ≤ w.heap.size)
    (hK : ∀ w', OwnB w' base (.slice (some ⟨w.heap.size, 0, none⟩) 0 n) [] → Below base w w' → wpList P ops Q rest (a.put o.dst (.slice (some ⟨w.heap.size, 0, none⟩) 0 n)) w') :
    wpList P ops Q (o :: rest) a w := by
  obtain ⟨i, hi, hz, hs, hby⟩ := info_parts hi0
  refine wpList_make_own w hg l c 24 hop base 5 i _ 1 ht hi hz hs kl kc C n hl hc hC (by rw [hby]; omega) (by simp only [maxLen]; omega) hb ?_
  intro w' hown hgr
  exact hK w' hown ((Below.refl _ _).grown hgr hb (by simp))

set_option maxRecDepth 100000 in
set_option maxHeartbeats 1000000 in
theorem may_any (l : List UInt8) (w : World) (hl : l.length ≤ 1073741824) : Calls Tryd.prog 9 #[.string ⟨l.toArray⟩] w (RetTell w (mayB l)) := by
  obtain ⟨S, hS⟩ : ∃ S : ByteArray, S = ⟨l.toArray⟩ := ⟨_, rfl⟩
  have hsz := str_size l S hS
  have hSl : S.toList = l := by rw [hS]; exact str_list l
  rw [← hS]
  have HS := Lib.hid hS
  obtain ⟨n, hn⟩ : ∃ n, l.length = n := ⟨_, rfl⟩
  rw [hn] at hsz hl
  have HN := Lib.hid hn
  clear hS hn
  by_cases h1 : 1 ≤ n
  · have hne : l ≠ [] := by
      rintro rfl
      have := HN.out
      simp at this
      omega
    have hie : S.toList.isEmpty = false := by rw [hSl, List.isEmpty_eq_false_iff]; exact hne
    have hin : ¬ S.toList = [] := by rw [hSl]; exact hne
    clear hSl hne
    by_cases h2 : n ≤ 16
    · obtain ⟨y, hy⟩ : ∃ y, l[0]? = some y := ⟨_, List.getElem?_eq_getElem (by rw [HN.out]; exact h1)⟩
      have hs0 := fun hj => str_at l 0 y hy S HS.out hj
      have hyl := y.toNat_lt
      have hh : l.headD 0 = y := by
        cases l with
        | nil => simp at hy
        | cons a l => simpa using hy
      have hmay : mayB l = (isLet y && l.all mayC) := by
        unfold mayB isLet
        rw [HN.out, decide_eq_true (show 1 ≤ n ∧ n ≤ 16 from ⟨h1, h2⟩), hh, Bool.true_and]
      have C1 := Lib.hid (isLetter_any y)
      have HM := Lib.hid hmay
      clear hy hh hmay
      cases hlet : isLet y with
      | false =>
        have hb : mayB l = false := by rw [HM.out, hlet]; rfl
        rw [hlet] at C1
        rw [hb]
        clear hb hlet
        go_enter Tryd.func9, Tryd.ntmps9
        go_wp2_with (go_at_call 24; refine (C1.out _).mono ?_; rintro e w1 ⟨rfl, rfl⟩)
        go_ret
        exact ⟨rfl, Below.refl _ _⟩
      | true =>
        have hb : mayB l = l.all mayC := by rw [HM.out, hlet]; rfl
        rw [hlet] at C1
        rw [hb]
        clear hb hlet HM
        go_enter Tryd.func9, Tryd.ntmps9
        go_wp2_with (go_at_call 24; refine (C1.out _).mono ?_; rintro e w1 ⟨rfl, rfl⟩)
        clear hs0 hie hin hyl C1
        go_loopw [19] (fun x wr => ∃ j : Nat, j ≤ n ∧ x = .int .i64 (j : Int) ∧ (l.take j).all mayC = true ∧ wr = w) (fun x _ => n - (intOf x).toNat)
        case atStart => exact ⟨0, by omega, rfl, by simp, rfl⟩
        case round =>
          obtain ⟨j, hj, rfl, hall, rfl⟩ := hrel
          by_cases hlt : j < n
          · obtain ⟨y, hy⟩ : ∃ y, l[j]? = some y := ⟨_, List.getElem?_eq_getElem (by rw [HN.out]; exact hlt)⟩
            have hsj := fun hj => str_at l j y hy S HS.out hj
            have hyl := y.toNat_lt
            have HYJ := Lib.hid hy
            have HA := Lib.hid hall
            have C2 := Lib.hid (mayFollow_any y)
            clear hy hall
            cases hc : mayC y with
            | true =>
              rw [hc] at C2
              have HC := Lib.hid hc
              clear hc
              go_wp2_with (go_at_call 25; refine (C2.out _).mono ?_; rintro e w1 ⟨rfl, rfl⟩)
              go_roundw
              case rel => exact ⟨j + 1, by omega, by go_num, by rw [all_take HYJ.out, HA.out, HC.out]; rfl, trivial⟩
              case measure => simp [intOf]; omega
            | false =>
              rw [hc] at C2
              have HC := Lib.hid hc
              clear hc
              go_wp2_with (go_at_call 25; refine (C2.out _).mono ?_; rintro e w1 ⟨rfl, rfl⟩)
              go_ret
              exact ⟨by rw [all_false HYJ.out HC.out]; rfl, Below.refl _ _⟩
          · obtain rfl : j = n := by omega
            rw [List.take_of_length_le (by rw [HN.out]; exact Nat.le_refl _)] at hall
            have HA := Lib.hid hall
            clear hall
            go_wp2_with fail
            go_ret
            exact ⟨by rw [HA.out]; rfl, Below.refl _ _⟩
    · have hb : mayB l = false := by
        unfold mayB
        rw [HN.out, decide_eq_false (by omega)]
        rfl
      rw [hb]
      clear hb
      go_enter Tryd.func9, Tryd.ntmps9
      go_wp2_with fail
      go_ret
      exact ⟨rfl, Below.refl _ _⟩
  · obtain rfl : n = 0 := by omega
    have hnil : l = [] := List.eq_nil_of_length_eq_zero HN.out
    have hb : mayB l = false := by rw [hnil]; rfl
    rw [hb]
    have hS0 := HS.out
    rw [hnil] at hS0
    subst hS0
    clear hb HS hSl hsz hl
    go_enter Tryd.func9, Tryd.ntmps9
    go_wp2_with fail
    go_ret
    exact ⟨rfl, Below.refl _ _⟩

theorem and15 (z : UInt8) : bits .and .u8 (z.toNat : Int) 15 = ((z.toNat % 16 : Nat) : Int) := by
  have all : ∀ (z : Fin 256), bits .and .u8 (z.val : Int) 15 = ((z.val % 16 : Nat) : Int) := by decide +kernel
  exact all ⟨z.toNat, z.toNat_lt⟩

set_option maxRecDepth 100000 in
set_option maxHeartbeats 1000000 in
theorem hex_any (A : Option Addr) (n c : Nat) (l : List UInt8) (w : World) (h : HasB w w.heap.size A n l) (hc : n ≤ c) (hn : n ≤ 536870912) : Calls Tryd.prog 19 #[.slice A n c] w (RetStr w (hexL l)) := by
  have HL := Lib.hid h.len
  have HS := Lib.hid h
  clear h
  obtain ⟨W0, hW0⟩ : ∃ W0, W0 = w := ⟨_, rfl⟩
  rw [← hW0] at HS ⊢
  clear hW0 w
  go_enter Tryd.func19, Tryd.ntmps19
  go_wp2_with (at_make; refine wp_mk0 _ rfl _ _ rfl Tryd.underlying24 infoU8 W0.heap.size _ _ _ (2 * n) rfl rfl (by omega) (by omega) (Nat.le_refl _) ?_; intro w1 hown1 hb1)
  go_loopw [3, 12] (fun s i wr => ∃ (A' : Option Addr) (n' c' k : Nat), s = .slice A' n' c' ∧ k ≤ n ∧ i = .int .i64 (k : Int) ∧ OwnB wr W0.heap.size (.slice A' n' c') (hexL (l.take k)) ∧ Below W0.heap.size W0 wr) (fun _ i _ => n - (intOf i).toNat)
  case atStart => exact ⟨_, _, _, 0, rfl, by omega, rfl, by rw [show hexL (l.take 0) = [] by simp [hexL]]; exact hown1, hb1⟩
  case round =>
    obtain ⟨A', n', c', k, rfl, hk, rfl, hown, hbel⟩ := hrel
    clear hown1 hb1
    by_cases hlt : k < n
    · obtain ⟨y, hy⟩ : ∃ y, l[k]? = some y := ⟨_, List.getElem?_eq_getElem (by rw [← HL.out]; exact hlt)⟩
      obtain ⟨g1, o1, rfl, _, c1⟩ := (HS.out.below hbel).2 (by omega)
      have d1 := c1 k y hy
      have hyl := y.toNat_lt
      have hll : (hexL (l.take k)).length ≤ 1073741824 := by
        rw [hexL_len, List.length_take]
        omega
      have HY := Lib.hid hy
      have O := Lib.hid hown
      have BR := Lib.hid hbel
      have HLL := Lib.hid hll
      have hand := and15 y
      obtain ⟨q, hq⟩ : ∃ q : Nat, y.toNat / 16 = q := ⟨_, rfl⟩
      obtain ⟨r, hr⟩ : ∃ r : Nat, y.toNat % 16 = r := ⟨_, rfl⟩
      have q1 : (y.toNat : Int) / 16 = (q : Int) := by omega
      have q3 : q < 16 := by omega
      have r3 : r < 16 := by omega
      have C1 := Lib.hid (pdigit_any q q3)
      have C2 := Lib.hid (pdigit_any r r3)
      rw [hr] at hand
      have HQ := Lib.hid hq
      have HR := Lib.hid hr
      clear hy c1 hown hbel hll hq hr
      go_wp2_with (first
        | (go_at_call 29; refine (D1.out.out _).mono ?_; rintro e w3 ⟨rfl, rfl⟩)
        | (go_at_call 29; refine (C1.out _).mono ?_; rintro e w2 ⟨rfl, rfl⟩; have D1 := Lib.hid C2)
        | (at_builtin; refine wp_app rfl (.tmp 16) (.tmp 23) rfl Tryd.underlying24 infoU8 W0.heap.size _ _ [hexC q, hexC r] rfl (O.out.alloc _) _ _ _ _ rfl (HasB.row wr [hexC q, hexC r] 5) (by have := HLL.out; simp only [List.length_cons, List.length_nil]; omega) (BR.out.alloc BR.out.size _).size ?_; intro A5 n5 c5 w5 hown5 hg5 hb5))
      go_roundw
      case rel =>
        refine ⟨A5, n5, c5, k + 1, rfl, by omega, by go_num, ?_, (BR.out.alloc BR.out.size _).trans hb5⟩
        rw [hexL_snoc l k y HY.out, HQ.out, HR.out]
        exact hown5
      case measure => simp [intOf]; omega
    · obtain rfl : k = n := by omega
      rw [List.take_of_length_le (by rw [← HL.out]; exact Nat.le_refl _)] at hown
      have hcv := run_conv (P := Tryd.prog) Tryd.underlying24 Tryd.underlying5 Tryd.underlying9 wr.heap.size A' n' c' _ hown.has
      have BR := Lib.hid hbel
      clear hown hbel
      go_wp2_with (refine wpList_convG rfl 24 9 (.tmp 26) rfl _ _ rfl hcv ?_)
      go_ret
      exact ⟨rfl, BR.out⟩
end Go.Proofs.YtbnlkagiliimkaaDoor
