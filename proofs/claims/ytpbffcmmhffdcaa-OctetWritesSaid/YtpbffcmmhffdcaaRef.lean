/-
  Own work. Contracts of the document's answer to Put, At, Count, Text and TakeText.
-/
import Derived.Test.YtpbffcmmhffdcaaTake
namespace Go.Proofs.Ytpbffcmmhffdcaa
open Go.RowKit
set_option linter.unusedVariables false
set_option linter.unusedSimpArgs false

theorem OwnB.one (w : World) (base : Nat) (x : Int) (b : UInt8) (hx : x = (b.toNat : Int)) (hb : base ≤ w.heap.size) : OwnB (w.alloc (.cells #[.int .u8 x] 5)) base (.slice (some ⟨w.heap.size, 0, none⟩) 1 1) [b] := by
  subst hx
  exact ⟨by simp [cellsB], .inr ⟨w.heap.size, 1, _, rfl, hb, heap_alloc_new w _, by simp, by simp [maxLen], by simp, by simp [cellsB]⟩⟩

set_option maxRecDepth 100000 in
theorem rat_any (A : Option Addr) (l : List UInt8) (n c : Nat) (p k : Int) (w : World) (h : HasB w w.heap.size A n l) (hn : n ≤ 1073741824) (hp : -9223372036854775808 ≤ p ∧ p ≤ 9223372036854775807) (hk : -9223372036854775808 ≤ k ∧ k ≤ 9223372036854775807) :
    Calls Try.prog 22 #[.slice A n c, .int .i64 p, .int .i64 k] w fun e w' => e = .returned (.tuple #[.int .u64 (atV l p k : Nat), .int .i64 (atE l p k)]) ∧ w = w' := by
  have hl := h.len
  obtain ⟨hp1, hp2⟩ := hp
  obtain ⟨hk1, hk2⟩ := hk
  by_cases hw1 : 1 ≤ k
  · by_cases hw2 : k ≤ 8
    · by_cases hp0 : 0 ≤ p
      · by_cases hfit : p + k ≤ n
        · have e1 : atE l p k = 0 := by unfold atE; rw [if_pos ⟨hw1, hw2, hp0⟩, if_pos (by omega)]
          have e2 : atV l p k = num ((l.drop p.toNat).take k.toNat) := by unfold atV; rw [e1, if_pos rfl]
          rw [e1, e2]
          obtain ⟨P, rfl⟩ := Int.eq_ofNat_of_zero_le hp0
          obtain ⟨K, rfl⟩ := Int.eq_ofNat_of_zero_le (show 0 ≤ k by omega)
          rw [Int.toNat_natCast, Int.toNat_natCast]
          obtain ⟨g, o, rfl, hg, hcell⟩ := h.2 (by omega)
          have HL := Lib.hid hl
          have HC := Lib.hid hcell
          clear hl hcell e1 e2 h
          go_enter Try.func22, Try.ntmps22
          go_wp2_with fail
          go_loop [8, 9] (fun x i => ∃ j : Nat, j ≤ K ∧ i = .int .i64 (j : Int) ∧ x = .int .u64 ((num ((l.drop P).take j) : Nat) : Int)) (fun _ i => K - (intOf i).toNat)
          case atStart => exact ⟨0, by omega, rfl, rfl⟩
          case round =>
            obtain ⟨j, hj, rfl, rfl⟩ := hrel
            by_cases hlt : j < K
            · obtain ⟨b, hb⟩ := at_some l (P + j) (by have := HL.out; omega)
              have hbb : (l.drop P)[j]? = some b := by rw [List.getElem?_drop]; exact hb
              have hn1 := num_take_lt (l.drop P) j (by omega)
              have hn2 : num ((l.drop P).take (j + 1)) = num ((l.drop P).take j) * 256 + b.toNat := by rw [take_snoc' _ _ _ hbb, num_snoc]
              have HN := Lib.hid hn2
              have hbl := b.toNat_lt
              have hcc : w.cell? ⟨g, o + (P + j), none⟩ = some (.int .u8 (b.toNat : Int)) := HC.out (P + j) b hb
              clear hb hbb hn2
              generalize num ((l.drop P).take j) = N at *
              go_wp2_with fail
              go_round
              case rel => exact ⟨j + 1, by omega, by go_num, by rw [HN.out]; go_num⟩
              case measure => simp [intOf]; omega
            · go_wp2_with fail
              obtain rfl : j = K := by omega
              go_ret2
              exact ⟨rfl, rfl⟩
        · have e1 : atE l p k = 3 := by unfold atE; rw [if_pos ⟨hw1, hw2, hp0⟩, if_neg (by omega)]
          have e2 : atV l p k = 0 := by unfold atV; rw [e1]; rfl
          rw [e1, e2]
          clear hl e1 e2 h
          by_cases hpn : p ≤ n
          all_goals
            go_enter Try.func22, Try.ntmps22
            go_wp2_with fail
            go_ret2
            exact ⟨rfl, rfl⟩
      · have e1 : atE l p k = 1 := by unfold atE; rw [if_neg (by omega)]
        have e2 : atV l p k = 0 := by unfold atV; rw [e1]; rfl
        rw [e1, e2]
        clear hl e1 e2 h
        go_enter Try.func22, Try.ntmps22
        go_wp2_with fail
        go_ret2
        exact ⟨rfl, rfl⟩
    · have e1 : atE l p k = 1 := by unfold atE; rw [if_neg (by omega)]
      have e2 : atV l p k = 0 := by unfold atV; rw [e1]; rfl
      rw [e1, e2]
      clear hl e1 e2 h
      go_enter Try.func22, Try.ntmps22
      go_wp2_with fail
      go_ret2
      exact ⟨rfl, rfl⟩
  · have e1 : atE l p k = 1 := by unfold atE; rw [if_neg (by omega)]
    have e2 : atV l p k = 0 := by unfold atV; rw [e1]; rfl
    rw [e1, e2]
    clear hl e1 e2 h
    go_enter Try.func22, Try.ntmps22
    go_wp2_with fail
    go_ret2
    exact ⟨rfl, rfl⟩

theorem rtakeText_any (A : Option Addr) (l : List UInt8) (n c : Nat) (w : World) (h : HasB w w.heap.size A n l) (hn : n ≤ 1073741824) (hc : n ≤ c) (hc2 : c ≤ maxLen) :
    Calls Try.prog 26 #[.slice A n c] w (RetTT w (ttL l) (ttN l) (ttE l)) := by
  have hl := h.len
  have ht := rtakeCount_any A l n c w h hn
  have hle := tcS_le l 0 0
  have hbad := @ttE_bad l
  have hE : ttE l = if (tcS l 0 0).2.2 = 0 then (if 65536 < (tcS l 0 0).1 then 2 else if l.length - (tcS l 0 0).2.1 < (tcS l 0 0).1 then 3 else 0) else (tcS l 0 0).2.2 := rfl
  have hN : ttE l = 0 → ttN l = (tcS l 0 0).2.1 + (tcS l 0 0).1 := fun e => by unfold ttN; rw [if_pos e]
  have hL : ttE l = 0 → ttL l = (l.drop (tcS l 0 0).2.1).take (tcS l 0 0).1 := fun e => by unfold ttL; rw [if_pos e]
  unfold tcRet at ht
  rcases hr : tcS l 0 0 with ⟨v, k, e⟩
  rw [hr] at ht hle hE hN hL
  simp only at ht hle hE hN hL
  clear hr
  unfold maxLen at hc2
  by_cases he : e = 0
  · subst he
    obtain ⟨hk0, hk⟩ := hle rfl
    rw [if_pos rfl] at hE
    by_cases hv : 65536 < v
    · rw [if_pos hv] at hE
      rw [hE] at hbad ⊢
      obtain ⟨b1, b2⟩ := hbad (by decide)
      rw [b1, b2]
      have HT := Lib.hid ht
      clear ht hle hbad hE hN hL b1 b2 hl h hk hk0
      go_enter Try.func26, Try.ntmps26
      go_wp2_with (go_at_call 24; refine HT.out.mono ?_; rintro e w' ⟨rfl, rfl⟩)
      go_ret3
      exact ⟨none, 0, 0, rfl, OwnB.nil _ _, Below.refl _ _⟩
    · rw [if_neg hv] at hE
      by_cases hs : l.length - k < v
      · rw [if_pos hs] at hE
        rw [hE] at hbad ⊢
        obtain ⟨b1, b2⟩ := hbad (by decide)
        rw [b1, b2]
        have HT := Lib.hid ht
        have hkn : k ≤ n := by omega
        have hs' : (n : Int) - (k : Int) < (v : Int) := by omega
        clear ht hle hbad hE hN hL b1 b2 hl h hk hk0 hs
        go_enter Try.func26, Try.ntmps26
        go_wp2_with (go_at_call 24; refine HT.out.mono ?_; rintro e w' ⟨rfl, rfl⟩)
        go_ret3
        exact ⟨none, 0, 0, rfl, OwnB.nil _ _, Below.refl _ _⟩
      · rw [if_neg hs] at hE
        rw [hE, hN hE, hL hE]
        have HT := Lib.hid ht
        obtain ⟨g, o, rfl, _, _⟩ := h.2 (by omega)
        have hkn : k + v ≤ n := by omega
        have hwin := fun (A' : Option Addr) (m : Nat) (hm : m = v) (hA : 0 < v → A' = some ⟨g, o + k, none⟩) => (h.window hkn hm hA).alloc (Nat.le_refl _) (.cells #[] 5)
        have HW := Lib.hid hwin
        have hwl : ((l.drop k).take v).length ≤ 65536 := by rw [List.length_take]; omega
        have HWL := Lib.hid hwl
        clear ht hle hbad hE hN hL hl hk hs hwin h hwl
        by_cases hck : c = k
        · have hv0 : v = 0 := by omega
          subst hck hv0
          go_enter Try.func26, Try.ntmps26
          go_wp2_with (first
            | (go_at_call 24; refine HT.out.mono ?_; rintro e w' ⟨rfl, rfl⟩)
            | (at_builtin; refine wp_app rfl _ _ rfl Try.underlying22 infoU8 w.heap.size _ [] _ rfl (OwnB.empty w) _ _ _ _ rfl (HW.out _ _ (by omega) (by omega)) (by rw [List.length_nil, Nat.zero_add]; have := HWL.out; omega) (by simp) ?_; intro A2 n2 c2 w2 hown2 hg2 hb2))
          go_ret3
          exact ⟨_, _, _, rfl, hown2, ((Below.refl _ _).alloc (Nat.le_refl _) _).trans hb2⟩
        · go_enter Try.func26, Try.ntmps26
          go_wp2_with (first
            | (go_at_call 24; refine HT.out.mono ?_; rintro e w' ⟨rfl, rfl⟩)
            | (at_builtin; refine wp_app rfl _ _ rfl Try.underlying22 infoU8 w.heap.size _ [] _ rfl (OwnB.empty w) _ _ _ _ rfl (HW.out _ _ (by omega) (fun _ => rfl)) (by rw [List.length_nil, Nat.zero_add]; have := HWL.out; omega) (by simp) ?_; intro A2 n2 c2 w2 hown2 hg2 hb2))
          go_ret3
          exact ⟨_, _, _, rfl, hown2, ((Below.refl _ _).alloc (Nat.le_refl _) _).trans hb2⟩
  · rw [if_neg he] at hE
    rw [hE] at hbad ⊢
    obtain ⟨b1, b2⟩ := hbad he
    rw [b1, b2]
    have HT := Lib.hid ht
    have hne : (e != 0) = true := by simpa using he
    clear ht hle hbad hE hN hL b1 b2 hl h he
    go_enter Try.func26, Try.ntmps26
    go_wp2_with (go_at_call 24; refine HT.out.mono ?_; rintro e w' ⟨rfl, rfl⟩)
    go_ret3
    exact ⟨none, 0, 0, rfl, OwnB.nil _ _, Below.refl _ _⟩
/-! ### Put, Count, Text -/
theorem v_div (v j : Nat) : v / 256 ^ j / 256 = v / 256 ^ (j + 1) := by rw [Nat.pow_succ, Nat.div_div_eq_div_mul]
theorem put_room (l m : List UInt8) (n : Nat) (h : n = l.length) (hn : n ≤ 1073741824) (hm : m.length ≤ 8) : ([] ++ l : List UInt8).length + m.length ≤ 140737488355328 := by simp; omega

set_option maxHeartbeats 1000000 in
set_option maxRecDepth 100000 in
theorem rput_any (A : Option Addr) (l : List UInt8) (n c v : Nat) (k : Int) (w : World) (h : HasB w w.heap.size A n l) (hn : n ≤ 1073741824) (hv : v < 18446744073709551616) (hk : -9223372036854775808 ≤ k ∧ k ≤ 9223372036854775807) :
    Calls Try.prog 14 #[.slice A n c, .int .u64 (v : Int), .int .i64 k] w (RetBE w (putL l v k) (putE v k)) := by
  have hcases := putE_cases v k hk
  obtain ⟨hk1, hk2⟩ := hk
  rcases hcases with ⟨he, hno⟩ | ⟨K, rfl, h1, h8, hfit⟩
  · have hL : putL l v k = [] := by unfold putL; rw [he]; rfl
    rw [he, hL]
    clear he hL h
    by_cases hlo : k < 1
    all_goals
      have hhi : k < 1 ∨ 8 < k := by omega
      clear hno
      go_enter Try.func14, Try.ntmps14
      go_wp2_with fail
      go_ret2
      exact ⟨none, 0, 0, rfl, OwnB.nil _ _, Below.refl _ _⟩
  · have hl := h.len
    have HL := Lib.hid hl
    have HF := Lib.hid hfit
    clear hl hfit
    go_enter Try.func14, Try.ntmps14
    go_wp2_with fail
    go_loopw [1, 8, 9] (fun y s x wr => ∃ (A' : Option Addr) (n' c' j : Nat), y = .int .u64 ((v / 256 ^ j : Nat) : Int) ∧ s = .slice A' n' c' ∧ x = .int .i64 (j : Int) ∧ j ≤ K ∧ OwnB wr w.heap.size (.slice A' n' c') (be j v) ∧ Below w.heap.size w wr) (fun _ _ x _ => K - (intOf x).toNat)
    case atStart => exact ⟨none, 0, 0, 0, by simp, rfl, rfl, by omega, OwnB.nil _ _, Below.refl _ _⟩
    case round =>
      obtain ⟨A', n', c', j, rfl, rfl, rfl, hj, hown, hbel⟩ := hrel
      have hsz := hbel.size
      have hvj : v / 256 ^ j ≤ v := Nat.div_le_self _ _
      have hdiv := v_div v j
      by_cases hlt : j < K
      · have hbc := be_cons j v
        have HBC := Lib.hid hbc
        have HD := Lib.hid hdiv
        clear hdiv hbc
        generalize v / 256 ^ j = q at *
        go_wp2_with (at_builtin; refine wp_app rfl _ _ rfl Try.underlying22 infoU8 w.heap.size _ [UInt8.ofNat q] (be j v) rfl (OwnB.one wr w.heap.size _ _ ?hx1 hsz) _ A' n' c' rfl (hown.has.alloc (Nat.le_refl _) _) (by rw [be_length, List.length_singleton]; omega) (Nat.le_trans hsz (by simp)) ?_; rotate_right; intro A2 n2 c2 w2 hown2 hg2 hb2)
        case hx1 => first | (rw [u8_of]; done) | (rw [u8_of]; omega)
        go_roundw
        case rel => exact ⟨A2, n2, c2, j + 1, by rw [← HD.out]; go_num, rfl, by go_num, by omega, by rw [HBC.out]; exact hown2, (hbel.alloc hsz _).trans hb2⟩
        case measure => simp [intOf]; omega
      · obtain rfl : j = K := by omega
        rcases HF.out with ⟨he, hnf⟩ | ⟨he, hf⟩
        · have hL : putL l v (j : Int) = [] := by unfold putL; rw [he]; rfl
          have hp : 0 < 256 ^ j := Nat.pow_pos (by omega)
          have hq : 1 ≤ v / 256 ^ j := (Nat.le_div_iff_mul_le hp).2 (by omega)
          have HE := Lib.hid he
          have HLL := Lib.hid hL
          clear he hL hnf hp hdiv
          generalize v / 256 ^ j = q at *
          go_wp2_with fail
          go_ret2
          rw [HE.out, HLL.out]
          exact ⟨none, 0, 0, rfl, OwnB.nil _ _, hbel⟩
        · have hL : putL l v (j : Int) = l ++ be j v := by unfold putL; rw [he, if_pos rfl, Int.toNat_natCast]
          have hq : v / 256 ^ j = 0 := Nat.div_eq_of_lt hf
          have HE := Lib.hid he
          have HLL := Lib.hid hL
          have h0 := h.below hbel
          have hbl : (be j v).length ≤ 8 := by rw [be_length]; omega
          have HB := Lib.hid hbl
          rw [hq]
          clear he hL hf hq hdiv hvj hbl
          go_wp2_with (first
            | (at_builtin; refine wp_app rfl (.tmp 31) (.tmp 32) rfl Try.underlying22 infoU8 wr.heap.size _ [] l rfl (OwnB.empty wr) _ A n c rfl (h0.alloc hsz _) (by rw [← HL.out, List.length_nil]; omega) (by simp) ?_; intro A2 n2 c2 w2 hown2' hg2 hb2
               have hown2 := hown2'.less hsz
               have hb3 : Below wr.heap.size wr w2 := ((Below.refl _ _).alloc (Nat.le_refl _) _).trans hb2
               have hb2' : Below w.heap.size w w2 := hbel.trans (hb3.mono hsz))
            | (at_builtin; refine wp_app rfl (.tmp 33) (.tmp 34) rfl Try.underlying22 infoU8 w.heap.size _ _ (be j v) rfl hown2 _ A' n' c' rfl ((hown.below hb3).has) (put_room l _ n HL.out hn HB.out) hb2'.size ?_; intro A3 n3 c3 w3 hown3 hg3 hb4))
          go_ret2
          rw [HE.out, HLL.out]
          exact ⟨A3, n3, c3, rfl, hown3, hb2'.trans hb4⟩
set_option maxRecDepth 100000 in
theorem rcount_any (A : Option Addr) (l : List UInt8) (n c v : Nat) (w : World) (h : HasB w w.heap.size A n l) (hn : n ≤ 1073741824) (hv : v < 18446744073709551616) :
    Calls Try.prog 18 #[.slice A n c, .int .u64 (v : Int)] w (RetB w (l ++ leb v)) := by
  have hl := h.len
  have HL := Lib.hid hl
  have hle := leb_le10 v hv
  have HLE := Lib.hid hle
  clear hl hle
  go_enter Try.func18, Try.ntmps18
  go_wp2_with (at_builtin; refine wp_app rfl (.tmp 6) (.tmp 7) rfl Try.underlying22 infoU8 w.heap.size _ [] l rfl (OwnB.empty w) _ A n c rfl (h.alloc (Nat.le_refl _) _) (by rw [← HL.out, List.length_nil]; omega) (by simp) ?_; intro A2 n2 c2 w2 hown2 hg2 hb2)
  rw [List.nil_append] at hown2
  have hb3 : Below w.heap.size w w2 := ((Below.refl _ _).alloc (Nat.le_refl _) _).trans hb2
  clear hg2 hb2
  go_loopw [1, 5] (fun x s wr => ∃ (A' : Option Addr) (n' c' : Nat) (d : List UInt8) (y : Nat), s = .slice A' n' c' ∧ x = .int .u64 (y : Int) ∧ y ≤ v ∧ d ++ leb y = leb v ∧ OwnB wr w.heap.size (.slice A' n' c') (l ++ d) ∧ Below w.heap.size w wr) (fun x _ _ => (intOf x).toNat)
  case atStart => exact ⟨A2, n2, c2, [], v, rfl, rfl, Nat.le_refl _, by simp, by simpa using hown2, hb3⟩
  case round =>
    obtain ⟨A', n', c', d, y, rfl, rfl, hy, hd, hown, hbel⟩ := hrel
    have hdl : d.length ≤ 10 := by have := HLE.out; rw [← hd, List.length_append] at this; omega
    have HD := Lib.hid hd
    have HH := Lib.hid hdl
    clear hd hdl
    have hsz : w.heap.size ≤ wr.heap.size := hbel.size
    have hroom : (l ++ d).length + 1 ≤ 140737488355328 := by rw [List.length_append, ← HL.out]; have := HH.out; omega
    have HR := Lib.hid hroom
    clear hroom
    by_cases hlt : y < 128
    · go_wp2_with (at_builtin; refine wp_app rfl (.tmp 20) (.tmp 23) rfl Try.underlying22 infoU8 w.heap.size _ (l ++ d) [UInt8.ofNat y] rfl (hown.alloc _) _ _ _ _ rfl (HasB.one wr _ _ _ ?hx1) HR.out (Nat.le_trans hsz (by simp)) ?_; rotate_right; intro A3 n3 c3 w3 hown3 hg3 hb3)
      case hx1 => rw [u8_of]; omega
      go_ret
      exact ⟨A3, n3, c3, rfl, by rw [← HD.out, leb_small hlt, ← List.append_assoc]; exact hown3, ((hbel.alloc hsz _).trans hb3)⟩
    · go_wp2_with (at_builtin; refine wp_app rfl (.tmp 11) (.tmp 16) rfl Try.underlying22 infoU8 w.heap.size _ (l ++ d) [UInt8.ofNat (y % 128 + 128)] rfl (hown.alloc _) _ _ _ _ rfl (HasB.one wr _ _ _ ?hx2) HR.out (Nat.le_trans hsz (by simp)) ?_; rotate_right; intro A3 n3 c3 w3 hown3 hg3 hb3)
      case hx2 => rw [u8_of]; omega
      go_roundw
      case rel => exact ⟨A3, n3, c3, d ++ [UInt8.ofNat (y % 128 + 128)], y / 128, rfl, by go_num, by omega, by rw [← HD.out, leb_big hlt]; simp, by rw [← List.append_assoc]; exact hown3, (hbel.alloc hsz _).trans hb3⟩
      case measure => simp [intOf]; omega

theorem rtext_any (A C : Option Addr) (l s : List UInt8) (n c m d : Nat) (w : World) (h : HasB w w.heap.size A n l) (hs : HasB w w.heap.size C m s) (hn : n ≤ 1073741824) (hm : m ≤ 1073741824) :
    Calls Try.prog 17 #[.slice A n c, .slice C m d] w (RetBE w (textL l s) (textE s)) := by
  have hl := h.len
  have hsl := hs.len
  by_cases hbig : m ≤ 65536
  · have e1 : textE s = 0 := by unfold textE; rw [if_pos (by omega)]
    have e2 : textL l s = l ++ leb m ++ s := by unfold textL; rw [if_pos (by omega), ← hsl]
    rw [e1, e2]
    have HL := Lib.hid hl
    have HS := Lib.hid hsl
    have hL10 := leb_le10 m (by omega)
    have H10 := Lib.hid hL10
    clear hl hsl e1 e2 hL10
    go_enter Try.func17, Try.ntmps17
    go_wp2_with (first
      | (go_at_call 18; refine (rcount_any A l n c m _ h hn (by omega)).mono ?_; rintro e w2 ⟨A2, n2, c2, rfl, hown2, hb2⟩)
      | (at_builtin; refine wp_app rfl _ _ rfl Try.underlying22 infoU8 w.heap.size _ (l ++ leb m) s rfl hown2 w.heap.size C m d rfl (hs.below hb2) (by have := HL.out; have := HS.out; have := H10.out; rw [List.length_append]; omega) hb2.size ?_; intro A3 n3 c3 w3 hown3 hg3 hb3))
    go_ret2
    exact ⟨A3, n3, c3, rfl, hown3, hb2.trans hb3⟩
  · have e1 : textE s = 2 := by unfold textE; rw [if_neg (by omega)]
    have e2 : textL l s = [] := by unfold textL; rw [if_neg (by omega)]
    rw [e1, e2]
    clear hl hsl e1 e2
    go_enter Try.func17, Try.ntmps17
    go_wp2_with fail
    go_ret2
    exact ⟨none, 0, 0, rfl, OwnB.nil _ _, Below.refl _ _⟩
end Go.Proofs.Ytpbffcmmhffdcaa
