/-
  Own work. The document's answer to space (cofferref8): its Take, Free, Left. The document's answer to space (cofferref8): its Copy. The document's answer to space (cofferref8): its New. An argument of type []cofferlaw8.Op.
-/
import Derived.Test.YtjpicaofgiagdaaGreatSb
import Derived.Test.YtjpicaofgiagdaaGreatG7
import Derived.Deep.Grids
import Derived.Deep.Slices
namespace Go.Proofs.YtjpicaofgiagdaaGreat
open Go.RowKit
set_option linter.unusedVariables false
set_option linter.unusedSimpArgs false

/-- A space of the document's, in memory: its struct at gs, its row of booleans at gr. -/
def spC (gr h c : Nat) (rs : List Nat) : List Value := .slice (some ⟨gr, 0, none⟩) h c :: rs.map (fun (v : Nat) => Value.int .u32 (Int.ofNat v))
structure SpR (w : World) (base gs gr c : Nat) (l : List Bool) (rs : List Nat) : Prop where
  blk : w.heap[gs]? = some (.cells (spC gr l.length c rs).toArray 33 (0, 0))
  row : OwnV 4 w base (.slice (some ⟨gr, 0, none⟩) l.length c) (l.map Value.bool)
  ne : gs ≠ gr
section
variable {w w' : World} {base gs gr c h : Nat} {l : List Bool} {rs : List Nat} {b : List UInt8}
theorem SpR.cell0 (a : SpR w base gs gr c l rs) : w.cell? ⟨gs, 0, none⟩ = some (.slice (some ⟨gr, 0, none⟩) l.length c) := by
  rw [cell_of_row _ _ _ _ _ _ a.blk]; rfl
theorem SpR.at_ (a : SpR w base gs gr c l rs) {i : Nat} {x : Bool} (hx : l[i]? = some x) : w.cell? ⟨gr, i, none⟩ = some (.bool x) := by
  have hi := (List.getElem?_eq_some_iff.1 hx).1
  obtain ⟨g', e, _, _, hc⟩ := a.row.at_ (by omega)
  simp only [Option.some.injEq, Addr.mk.injEq, and_true] at e
  subst e
  exact hc i _ (by rw [List.getElem?_map, hx]; rfl)
theorem SpR.free (a : SpR w base gs gr c l rs) (i : Nat) : w.frozen? ⟨gr, i, none⟩ = false := by
  rcases a.row.form with ⟨e, _⟩ | ⟨g2, c', cur, e, _, _, hg, _⟩
  · cases e
  · simp only [Value.slice.injEq, Option.some.injEq, Addr.mk.injEq, and_true] at e
    obtain ⟨rfl, -, -⟩ := e
    exact frozen_of_row w gr i _ _ hg
theorem SpR.only {S : Nat → Prop} (a : SpR w base gs gr c l rs) (ho : Only S w w') (h1 : ¬ S gs) (h2 : ¬ S gr) : SpR w' base gs gr c l rs :=
  ⟨(ho.block gs (Array.getElem?_eq_some_iff.1 a.blk).1 h1).trans a.blk, a.row.only ho (fun k hk => by have h2' : some gr = some k := hk; injection h2' with h2'; rw [← h2']; exact h2), a.ne⟩
/-- The row says what is taken. -/
def Us8 (l : List Bool) (b : List UInt8) : Prop := ∀ x, x < l.length → l[x]? = some (tkB b x)
set_option maxRecDepth 100000 in
set_option maxHeartbeats 1000000 in
theorem rleft_any (a : SpR w base gs gr c l rs) (hu : Us8 l b) (hl : l.length ≤ 4096) (cnt : Nat → Nat) (c0 : cnt 0 = 0) (cs : ∀ i, cnt (i + 1) = cnt i + if tkB b i then 0 else 1) (cle : ∀ i, cnt i ≤ i) :
    Calls Tryz.prog 56 #[.pointer (some ⟨gs, 0, none⟩)] w fun e w' => e = .returned (.int .i64 ((cnt l.length : Nat) : Int)) ∧ w = w' := by
  have A := Lib.hid a
  have k0 := a.cell0
  obtain ⟨h, hh⟩ : ∃ h, l.length = h := ⟨_, rfl⟩
  rw [hh] at k0 hl ⊢
  have HH := Lib.hid hh
  have U := Lib.hid hu
  have CS := Lib.hid cs
  have CL := Lib.hid cle
  have C0 := Lib.hid c0
  clear a hu hh cs cle c0
  go_enter Tryz.func56, Tryz.ntmps56
  go_wp2_with fail
  go_loop [3, 4] (fun x i => ∃ k : Nat, k ≤ h ∧ i = .int .i64 (k : Int) ∧ x = .int .i64 ((cnt k : Nat) : Int)) (fun _ i => h - (intOf i).toNat)
  case atStart => exact ⟨0, Nat.zero_le _, rfl, by rw [C0.out]; rfl⟩
  case round =>
    obtain ⟨k, hk, rfl, rfl⟩ := hrel
    have hc := CL.out k
    by_cases hlt : k < h
    · obtain ⟨t, ht⟩ : ∃ t, tkB b k = t := ⟨_, rfl⟩
      have k1 := A.out.at_ (U.out k (by rw [HH.out]; exact hlt))
      have hs := CS.out k
      rw [ht] at k1 hs
      have HS := Lib.hid hs
      obtain ⟨q, hq⟩ : ∃ q, cnt k = q := ⟨_, rfl⟩
      rw [hq] at HS hc ⊢
      clear ht hs hq
      cases t
      · go_wp2_with fail
        go_round
        case rel => exact ⟨k + 1, by omega, by go_num, by rw [HS.out]; simp only [Bool.false_eq_true, ite_false]; go_num⟩
        case measure => simp [intOf]; omega
      · go_wp2_with fail
        go_round
        case rel => exact ⟨k + 1, by omega, by go_num, by rw [HS.out]; simp⟩
        case measure => simp [intOf]; omega
    · obtain rfl : k = h := by omega
      go_wp2_with fail
      go_ret
      exact ⟨rfl, rfl⟩
/-- Are the first k from t on free? -/
def allF (b : List UInt8) (t : Nat) : Nat → Bool
  | 0 => true
  | k + 1 => allF b t k && !tkB b (t + k)
theorem allF_iff (b : List UInt8) (t : Nat) : ∀ k, allF b t k = true ↔ ∀ j, j < k → tkB b (t + j) = false
  | 0 => ⟨fun _ j hj => by omega, fun _ => rfl⟩
  | k + 1 => by
    rw [allF, Bool.and_eq_true, allF_iff b t k, Bool.not_eq_true']
    constructor
    · rintro ⟨h1, h2⟩ j hj
      by_cases he : j = k
      · rw [he]; exact h2
      · exact h1 j (by omega)
    · intro h
      exact ⟨fun j hj => h j (by omega), h k (by omega)⟩
theorem SpR.set (a : SpR w base gs gr c l rs) {i : Nat} (hi : i < l.length) (x : Bool) : SpR (w.setCell ⟨gr, i, none⟩ (.bool x)) base gs gr c (l.set i x) rs := by
  refine ⟨?_, ?_, a.ne⟩
  · rw [List.length_set]
    exact (heap_setCell_other w ⟨gr, i, none⟩ gs _ a.ne).trans a.blk
  · have hr := a.row
    refine ⟨by simp, ?_⟩
    rcases hr.2 with ⟨e, _⟩ | ⟨g2, c2, cur, e, hb, hg, h1, h2, h3, h4⟩
    · cases e
    · simp only [Value.slice.injEq, Option.some.injEq, Addr.mk.injEq, and_true] at e
      obtain ⟨rfl, e2, rfl⟩ := e
      refine .inr ⟨gr, c, cur.setIfInBounds i (.bool x), by simp, hb, heap_setCell_same w gr i _ _ _ hg, by simpa using h1, h2, by simpa using h3, ?_⟩
      have : (cur.setIfInBounds i (.bool x)).toList = cur.toList.set i (.bool x) := by simp
      rw [this, List.take_set]
      have h4' : cur.toList.take (l.length * 1) = l.map Value.bool := by simpa using h4
      simp only [List.length_map, List.length_set, List.map_set]
      rw [h4']
set_option maxRecDepth 100000 in
set_option maxHeartbeats 4000000 in
theorem rtake_yes (a : SpR w base gs gr c l rs) (hu : Us8 l b) (hl : l.length ≤ 4096) (n s : Nat) (h1 : 1 ≤ n) (h2 : n ≤ 64) (hg : IsGap b l.length n s) :
    Calls Tryz.prog 20 #[.pointer (some ⟨gs, 0, none⟩), .int .i64 (n : Int)] w fun e w' => e = .returned (.tuple #[.int .i64 (s : Int), .int .i64 0]) ∧ (∃ l', l'.length = l.length ∧ SpR w' base gs gr c l' rs ∧ ∀ x, x < l.length → l'[x]? = some (tkB b x || (decide (s ≤ x) && decide (x < s + n)))) ∧ Only (fun k => k = gr) w w' := by
  have A := Lib.hid a
  have k0 := a.cell0
  obtain ⟨h, hh⟩ : ∃ h, l.length = h := ⟨_, rfl⟩
  rw [hh] at k0 hl hg ⊢
  have HH := Lib.hid hh
  have U := Lib.hid hu
  have G := Lib.hid hg
  have hsn := hg.1
  clear a hu hg hh
  go_enter Tryz.func20, Tryz.ntmps20
  go_wp2_with fail
  go_loop [6] (fun i => ∃ t : Nat, t ≤ s ∧ i = .int .i64 (t : Int)) (fun i => s + 1 - (intOf i).toNat)
  case atStart => exact ⟨0, Nat.zero_le _, rfl⟩
  case round =>
    obtain ⟨t, ht, rfl⟩ := hrel
    have htn : t + n ≤ h := by omega
    have htn' : (t : Int) + (n : Int) ≤ (h : Int) := by omega
    go_wp2_with fail
    go_loop [7, 8] (fun fr i => ∃ m : Nat, m ≤ n ∧ i = .int .i64 (m : Int) ∧ fr = .bool (allF b t m)) (fun _ i => n - (intOf i).toNat)
    case atStart => exact ⟨0, Nat.zero_le _, rfl, rfl⟩
    case round =>
      obtain ⟨m, hm, rfl, rfl⟩ := hrel
      by_cases hlt : m < n
      · have k1 := A.out.at_ (U.out (t + m) (by rw [HH.out]; omega))
        have AF : Hid (allF b t (m + 1) = (allF b t m && !tkB b (t + m))) := Lib.hid rfl
        have htm : t + m < h := by omega
        obtain ⟨f, hf⟩ : ∃ f, allF b t m = f := ⟨_, rfl⟩
        obtain ⟨y, hy⟩ : ∃ y, tkB b (t + m) = y := ⟨_, rfl⟩
        rw [hy] at k1
        rw [hf, hy] at AF
        rw [hf]
        clear hf hy
        cases f
        · go_wp2_with fail
          go_round
          case rel => exact ⟨m + 1, by omega, by go_num, by rw [AF.out]; rfl⟩
          case measure => simp [intOf]; omega
        · go_wp2_with fail
          go_round
          case rel => exact ⟨m + 1, by omega, by go_num, by rw [AF.out]; simp⟩
          case measure => simp [intOf]; omega
      · obtain rfl : m = n := by omega
        by_cases hts : t = s
        · subst hts
          have hall : allF b t m = true := (allF_iff b t m).2 G.out.2.1
          rw [hall]
          go_wp2_with fail
          go_loopw [9] (fun i wr => ∃ (m2 : Nat) (l' : List Bool), m2 ≤ m ∧ i = .int .i64 (m2 : Int) ∧ l'.length = h ∧ SpR wr base gs gr c l' rs ∧ (∀ x, x < h → l'[x]? = some (tkB b x || (decide (t ≤ x) && decide (x < t + m2)))) ∧ Only (fun k => k = gr) w wr) (fun i _ => m - (intOf i).toNat)
          case atStart => exact ⟨0, l, by omega, rfl, HH.out, A.out, fun x hx => by
            rw [U.out x (by rw [HH.out]; exact hx)]
            by_cases h1 : t ≤ x
            · rw [decide_eq_false (p := x < t + 0) (by omega)]; simp
            · rw [decide_eq_false h1]; simp, Only.refl _ _⟩
          case round =>
            obtain ⟨m2, l', hm2, rfl, hl', qa, qu, qy⟩ := hrel
            have QA := Lib.hid qa
            have QU := Lib.hid qu
            have QY := Lib.hid qy
            have QL := Lib.hid hl'
            have kq := qa.cell0
            rw [hl'] at kq
            clear qa qu qy hl'
            by_cases hlt2 : m2 < m
            · obtain ⟨v, hv⟩ : ∃ v, l'[t + m2]? = some v := ⟨_, QU.out (t + m2) (by omega)⟩
              have kv := QA.out.at_ hv
              have fv := QA.out.free (t + m2)
              have htm2 : t + m2 < h := by omega
              clear hv
              go_wp2_with fail
              go_roundw
              case rel => exact ⟨m2 + 1, l'.set (t + m2) true, by omega, by go_num, by rw [List.length_set]; exact QL.out, QA.out.set (by rw [QL.out]; exact htm2) true, fun x hx => by
                rw [List.getElem?_set]
                by_cases he : t + m2 = x
                · rw [if_pos he, if_pos (by rw [QL.out]; exact htm2), decide_eq_true (p := t ≤ x) (by omega), decide_eq_true (p := x < t + (m2 + 1)) (by omega)]; simp
                · rw [if_neg he, QU.out x hx, show decide (x < t + (m2 + 1)) = decide (x < t + m2) from decide_eq_decide.2 (by omega)], QY.out.setCell (p := ⟨gr, t + m2, none⟩) rfl _⟩
              case measure => simp [intOf]; omega
            · obtain rfl : m2 = m := by omega
              go_wp2_with fail
              go_ret2
              exact ⟨rfl, ⟨l', QL.out, QA.out, QU.out⟩, QY.out⟩
        · have hall : allF b t m = false := by
            rw [Bool.eq_false_iff]
            intro hc
            obtain ⟨j, hj, htk⟩ := G.out.2.2 t (by omega)
            rw [(allF_iff b t m).1 hc j hj] at htk
            cases htk
          rw [hall]
          go_wp2_with fail
          go_round
          case rel => exact ⟨t + 1, by omega, by go_num⟩
          case measure => simp [intOf]; omega
set_option maxRecDepth 100000 in
set_option maxHeartbeats 4000000 in
theorem rtake_no (a : SpR w base gs gr c l rs) (hu : Us8 l b) (hl : l.length ≤ 4096) (n : Nat) (h1 : 1 ≤ n) (h2 : n ≤ 64) (hg : NoGap b l.length n) :
    Calls Tryz.prog 20 #[.pointer (some ⟨gs, 0, none⟩), .int .i64 (n : Int)] w fun e w' => e = .returned (.tuple #[.int .i64 0, .int .i64 7]) ∧ w = w' := by
  have A := Lib.hid a
  have k0 := a.cell0
  obtain ⟨h, hh⟩ : ∃ h, l.length = h := ⟨_, rfl⟩
  rw [hh] at k0 hl hg
  have HH := Lib.hid hh
  have U := Lib.hid hu
  have G := Lib.hid hg
  clear a hu hg hh
  go_enter Tryz.func20, Tryz.ntmps20
  go_wp2_with fail
  go_loop [6] (fun i => ∃ t : Nat, t ≤ h + 1 ∧ i = .int .i64 (t : Int)) (fun i => h + 2 - (intOf i).toNat)
  case atStart => exact ⟨0, Nat.zero_le _, rfl⟩
  case round =>
    obtain ⟨t, ht, rfl⟩ := hrel
    by_cases htn : t + n ≤ h
    · have htn' : (t : Int) + (n : Int) ≤ (h : Int) := by omega
      go_wp2_with fail
      go_loop [7, 8] (fun fr i => ∃ m : Nat, m ≤ n ∧ i = .int .i64 (m : Int) ∧ fr = .bool (allF b t m)) (fun _ i => n - (intOf i).toNat)
      case atStart => exact ⟨0, Nat.zero_le _, rfl, rfl⟩
      case round =>
        obtain ⟨m, hm, rfl, rfl⟩ := hrel
        by_cases hlt : m < n
        · have k1 := A.out.at_ (U.out (t + m) (by rw [HH.out]; omega))
          have AF : Hid (allF b t (m + 1) = (allF b t m && !tkB b (t + m))) := Lib.hid rfl
          have htm : t + m < h := by omega
          obtain ⟨f, hf⟩ : ∃ f, allF b t m = f := ⟨_, rfl⟩
          obtain ⟨y, hy⟩ : ∃ y, tkB b (t + m) = y := ⟨_, rfl⟩
          rw [hy] at k1
          rw [hf, hy] at AF
          rw [hf]
          clear hf hy
          cases f
          · go_wp2_with fail
            go_round
            case rel => exact ⟨m + 1, by omega, by go_num, by rw [AF.out]; rfl⟩
            case measure => simp [intOf]; omega
          · go_wp2_with fail
            go_round
            case rel => exact ⟨m + 1, by omega, by go_num, by rw [AF.out]; simp⟩
            case measure => simp [intOf]; omega
        · obtain rfl : m = n := by omega
          have hall : allF b t m = false := by
            rw [Bool.eq_false_iff]
            intro hc
            obtain ⟨j, hj, htk⟩ := G.out t htn
            rw [(allF_iff b t m).1 hc j hj] at htk
            cases htk
          rw [hall]
          go_wp2_with fail
          go_round
          case rel => exact ⟨t + 1, by omega, by go_num⟩
          case measure => simp [intOf]; omega
    · have htn' : ¬ (t : Int) + (n : Int) ≤ (h : Int) := by omega
      go_wp2_with fail
      go_ret2
      exact ⟨rfl, rfl⟩
theorem rtake_arg (v : Value) (n : Int) (hb : -9223372036854775808 ≤ n ∧ n ≤ 9223372036854775807) (hn : n < 1 ∨ 64 < n) : Calls Tryz.prog 20 #[v, .int .i64 n] w fun e w' => e = .returned (.tuple #[.int .i64 0, .int .i64 1]) ∧ w = w' := by
  obtain ⟨b1, b2⟩ := hb
  by_cases h0 : n < 1
  · clear hn
    go_enter Tryz.func20, Tryz.ntmps20
    go_wp2_with fail
    go_ret2
    exact ⟨rfl, rfl⟩
  · have h1 : 64 < n := by omega
    clear hn
    go_enter Tryz.func20, Tryz.ntmps20
    go_wp2_with fail
    go_ret2
    exact ⟨rfl, rfl⟩
set_option maxRecDepth 100000 in
set_option maxHeartbeats 4000000 in
theorem rfree_yes (a : SpR w base gs gr c l rs) (hu : Us8 l b) (hl : l.length ≤ 4096) (s n : Nat) (h1 : 1 ≤ n) (h2 : n ≤ 64) (hx : IsExt b l.length (s : Int) (n : Int)) :
    Calls Tryz.prog 22 #[.pointer (some ⟨gs, 0, none⟩), .int .i64 (s : Int), .int .i64 (n : Int)] w fun e w' => e = .returned (.int .i64 0) ∧ (∃ l', l'.length = l.length ∧ SpR w' base gs gr c l' rs ∧ ∀ x, x < l.length → l'[x]? = some (tkB b x && !(decide (s ≤ x) && decide (x < s + n)))) ∧ Only (fun k => k = gr) w w' := by
  have A := Lib.hid a
  have k0 := a.cell0
  obtain ⟨h, hh⟩ : ∃ h, l.length = h := ⟨_, rfl⟩
  rw [hh] at k0 hl hx ⊢
  have HH := Lib.hid hh
  have U := Lib.hid hu
  have G := Lib.hid hx
  have hs4 : 4 ≤ s := by have := hx.1; omega
  have hsn : s + n ≤ h := by have := hx.2.1; omega
  clear a hu hx hh
  go_enter Tryz.func22, Tryz.ntmps22
  go_wp2_with fail
  go_loop [7] (fun i => ∃ m : Nat, m ≤ n ∧ i = .int .i64 (m : Int)) (fun i => n - (intOf i).toNat)
  case atStart => exact ⟨0, Nat.zero_le _, rfl⟩
  case round =>
    obtain ⟨m, hm, rfl⟩ := hrel
    by_cases hlt : m < n
    · have k1 := A.out.at_ (U.out (s + m) (by rw [HH.out]; omega))
      have tk := G.out.2.2 m (by omega)
      rw [Int.toNat_natCast] at tk
      rw [tk] at k1
      have hsm : s + m < h := by omega
      clear tk
      go_wp2_with fail
      go_round
      case rel => exact ⟨m + 1, by omega, by go_num⟩
      case measure => simp [intOf]; omega
    · obtain rfl : m = n := by omega
      go_wp2_with fail
      go_loopw [8] (fun i wr => ∃ (m2 : Nat) (l' : List Bool), m2 ≤ m ∧ i = .int .i64 (m2 : Int) ∧ l'.length = h ∧ SpR wr base gs gr c l' rs ∧ (∀ x, x < h → l'[x]? = some (tkB b x && !(decide (s ≤ x) && decide (x < s + m2)))) ∧ Only (fun k => k = gr) w wr) (fun i _ => m - (intOf i).toNat)
      case atStart => exact ⟨0, l, by omega, rfl, HH.out, A.out, fun x hx => by
        rw [U.out x (by rw [HH.out]; exact hx)]
        by_cases h1 : s ≤ x
        · rw [decide_eq_false (p := x < s + 0) (by omega)]; simp
        · rw [decide_eq_false h1]; simp, Only.refl _ _⟩
      case round =>
        obtain ⟨m2, l', hm2, rfl, hl', qa, qu, qy⟩ := hrel
        have QA := Lib.hid qa
        have QU := Lib.hid qu
        have QY := Lib.hid qy
        have QL := Lib.hid hl'
        have kq := qa.cell0
        rw [hl'] at kq
        clear qa qu qy hl'
        by_cases hlt2 : m2 < m
        · obtain ⟨v, hv⟩ : ∃ v, l'[s + m2]? = some v := ⟨_, QU.out (s + m2) (by omega)⟩
          have kv := QA.out.at_ hv
          have fv := QA.out.free (s + m2)
          have htm2 : s + m2 < h := by omega
          clear hv
          go_wp2_with fail
          go_roundw
          case rel => exact ⟨m2 + 1, l'.set (s + m2) false, by omega, by go_num, by rw [List.length_set]; exact QL.out, QA.out.set (by rw [QL.out]; exact htm2) false, fun x hx => by
            rw [List.getElem?_set]
            by_cases he : s + m2 = x
            · rw [if_pos he, if_pos (by rw [QL.out]; exact htm2), decide_eq_true (p := s ≤ x) (by omega), decide_eq_true (p := x < s + (m2 + 1)) (by omega)]; simp
            · rw [if_neg he, QU.out x hx, show decide (x < s + (m2 + 1)) = decide (x < s + m2) from decide_eq_decide.2 (by omega)], QY.out.setCell (p := ⟨gr, s + m2, none⟩) rfl _⟩
          case measure => simp [intOf]; omega
        · obtain rfl : m2 = m := by omega
          go_wp2_with fail
          go_ret
          exact ⟨rfl, ⟨l', QL.out, QA.out, QU.out⟩, QY.out⟩
set_option maxRecDepth 100000 in
set_option maxHeartbeats 4000000 in
theorem rfree_no (a : SpR w base gs gr c l rs) (hu : Us8 l b) (hl : l.length ≤ 4096) (s n : Int) (hs : -9223372036854775808 ≤ s ∧ s ≤ 9223372036854775807) (hn : -9223372036854775808 ≤ n ∧ n ≤ 9223372036854775807) (hx : ¬ (1 ≤ n ∧ n ≤ 64 ∧ IsExt b l.length s n)) :
    Calls Tryz.prog 22 #[.pointer (some ⟨gs, 0, none⟩), .int .i64 s, .int .i64 n] w fun e w' => e = .returned (.int .i64 1) ∧ w = w' := by
  have A := Lib.hid a
  have k0 := a.cell0
  obtain ⟨h, hh⟩ : ∃ h, l.length = h := ⟨_, rfl⟩
  rw [hh] at k0 hl hx
  have HH := Lib.hid hh
  have U := Lib.hid hu
  have G := Lib.hid hx
  obtain ⟨s1, s2⟩ := hs
  obtain ⟨n1, n2⟩ := hn
  clear a hu hx hh
  by_cases c1 : n < 1
  · go_enter Tryz.func22, Tryz.ntmps22
    go_wp2_with fail
    go_ret
    exact ⟨rfl, rfl⟩
  by_cases c2 : 64 < n
  · go_enter Tryz.func22, Tryz.ntmps22
    go_wp2_with fail
    go_ret
    exact ⟨rfl, rfl⟩
  by_cases c3 : s < 4
  · go_enter Tryz.func22, Tryz.ntmps22
    go_wp2_with fail
    go_ret
    exact ⟨rfl, rfl⟩
  by_cases c4 : (h : Int) ≤ s
  · go_enter Tryz.func22, Tryz.ntmps22
    go_wp2_with fail
    go_ret
    exact ⟨rfl, rfl⟩
  by_cases c5 : (h : Int) - s < n
  · go_enter Tryz.func22, Tryz.ntmps22
    go_wp2_with fail
    go_ret
    exact ⟨rfl, rfl⟩
  obtain ⟨S, rfl⟩ := Int.eq_ofNat_of_zero_le (show 0 ≤ s by omega)
  obtain ⟨N, rfl⟩ := Int.eq_ofNat_of_zero_le (show 0 ≤ n by omega)
  have hSN : S + N ≤ h := by omega
  go_enter Tryz.func22, Tryz.ntmps22
  go_wp2_with fail
  go_loop [7] (fun i => ∃ m : Nat, m ≤ N ∧ i = .int .i64 (m : Int) ∧ ∀ j, j < m → tkB b (S + j) = true) (fun i => N - (intOf i).toNat)
  case atStart => exact ⟨0, Nat.zero_le _, rfl, fun j hj => by omega⟩
  case round =>
    obtain ⟨m, hm, rfl, hall⟩ := hrel
    have HA := Lib.hid hall
    clear hall
    by_cases hlt : m < N
    · have k1 := A.out.at_ (U.out (S + m) (by rw [HH.out]; omega))
      have hsm : S + m < h := by omega
      obtain ⟨t, ht⟩ : ∃ t, tkB b (S + m) = t := ⟨_, rfl⟩
      rw [ht] at k1
      have HT := Lib.hid ht
      clear ht
      cases t
      · go_wp2_with fail
        go_ret
        exact ⟨rfl, rfl⟩
      · go_wp2_with fail
        go_round
        case rel => exact ⟨m + 1, by omega, by go_num, fun j hj => by
          by_cases he : j = m
          · rw [he]; exact HT.out
          · exact HA.out j (by omega)⟩
        case measure => simp [intOf]; omega
    · obtain rfl : m = N := by omega
      exact (G.out ⟨by omega, by omega, by omega, by omega, fun j hj => by rw [Int.toNat_natCast]; exact HA.out j (by omega)⟩).elim
end
end Go.Proofs.YtjpicaofgiagdaaGreat
namespace Go.Proofs.YtjpicaofgiagdaaGreat
open Go.RowKit
set_option linter.unusedVariables false
set_option linter.unusedSimpArgs false

/-- Sixteen roots as cells. -/
def rtC (rs : List Nat) : List Value := rs.map (fun (v : Nat) => Value.int .u32 (Int.ofNat v))
theorem rtC_len (rs : List Nat) : (rtC rs).length = rs.length := by simp [rtC]
theorem infoRt : (Tryz.prog.info? 31).map (·.size) = some 16 := by kernel_rfl
theorem infoSpR : (Tryz.prog.info? 33).map (·.size) = some 17 := by kernel_rfl
theorem SpR.load_rt {w : World} {base gs gr c : Nat} {l : List Bool} {rs : List Nat} (a : SpR w base gs gr c l rs) (hr : rs.length = 16) : (loadVar 31 ⟨gs, 1, none⟩).run Tryz.prog w = .ok (.agg (rtC rs).toArray) w := by
  have hc' : (loadCells ⟨gs, 1, none⟩ (rtC rs).length).run Tryz.prog w = .ok (rtC rs).toArray w :=
    run_loadCells_list (P := Tryz.prog) w ⟨gs, 1, none⟩ (rtC rs) (fun j v hv => by
      rw [Addr.add_lit, cell_of_row _ _ _ _ _ _ a.blk]
      unfold spC
      simp only [List.getElem?_toArray]
      rw [show 1 + j = j + 1 by omega, List.getElem?_cons_succ]
      exact hv)
  rw [rtC_len, hr] at hc'
  have hi := infoRt
  cases hq : Tryz.prog.info? 31 with
  | none => simp [hq] at hi
  | some i =>
    have hs : i.size = 16 := by simpa [hq] using hi
    have hagg : (isAgg 31).run Tryz.prog w = .ok true w := by
      unfold isAgg
      rw [Sem.run_bind, run_underlying Tryz.underlying31 w]
      rfl
    simp [loadVar, Sem.run_bind, hagg, sizeOf, typeInfo, hq, hs, hc']
def spZ : List Value := .slice none 0 0 :: List.replicate 16 (Value.int .u32 0)
theorem built_sp0 (parts : List (Nat × Value)) : Tryz.prog.built 33 parts = Instr.fill (#[(0, 1), (1, 16)][·]?) spZ.toArray parts := by kernel_rfl
theorem built_sp (gr h c : Nat) (rs : List Nat) (hr : rs.length = 16) : Tryz.prog.built 33 [(0, .slice (some ⟨gr, 0, none⟩) h c), (1, .agg (rtC rs).toArray)] = some (spC gr h c rs).toArray := by
  have l0 : (rtC rs).length = 16 := by rw [rtC_len]; exact hr
  rw [built_sp0, fill_step _ _ 0 _ _ 0 1 rfl rfl (by simp [spZ]), fill_step _ _ 1 _ _ 1 16 rfl (by show (rtC rs).toArray.size = 16; rw [List.size_toArray]; exact l0) (by simp [spZ, Value.cells])]
  have e : (spZ.toArray.toList.take 0 ++ (Value.slice (some ⟨gr, 0, none⟩) h c).cells.toList ++ spZ.toArray.toList.drop (0 + 1)).toArray.toList.take 1 ++ (Value.agg (rtC rs).toArray).cells.toList ++ (spZ.toArray.toList.take 0 ++ (Value.slice (some ⟨gr, 0, none⟩) h c).cells.toList ++ spZ.toArray.toList.drop (0 + 1)).toArray.toList.drop (1 + 16) = spC gr h c rs := by
    simp [spZ, Value.cells, spC, rtC]
  rw [e]
  rfl
theorem yieldsIf_build28 {P : Program} {ops : Array Oper} {o : Oper} {a : Act} {S : World → Prop} (hw : Region.wanted o (yielded ops a.tmps) = true) (t : TypeId) (i j : Nat) (x y : Operand) (ho : o.op = .build t #[(i, x), (j, y)])
    (u v : Value) (hx : a.eval x = u) (hy : a.eval y = v) (cells : Array Value) (hf : P.built t [(i, u), (j, v)] = some cells) : YieldsIf P ops S o (.agg cells) a := by
  refine Or.inl ⟨hw, fun w hS => ?_⟩
  unfold execOp
  simp only [ho, Sem.run_bind, List.map_toArray, List.map_cons, List.map_nil, hx, hy, run_build w t _ _ hf, Result.andThen_ok, Sem.run_pure]
theorem infoBool : (Tryz.prog.info? 4).map (fun i => (i.zero, i.size, i.bytes)) = some (some (.bool false), 1, 1) := by kernel_rfl
theorem OwnV.base_le {E : TypeId} {w : World} {b b' : Nat} {v : Value} {hs : List Value} (h : OwnV E w b v hs) (hb : b' ≤ b) : OwnV E w b' v hs :=
  ⟨h.1, h.2.imp id (fun ⟨g, c, cur, e, h3, r⟩ => ⟨g, c, cur, e, Nat.le_trans hb h3, r⟩)⟩
theorem only_setRow (w : World) (g : Nat) (cs : Array Value) : Only (fun k => k = g) w (w.setRow g cs) :=
  ⟨rfl, rfl, rfl, by simp [World.setRow], fun k _ hk => setRow_other w g k cs hk⟩
theorem spC_len (gr h c : Nat) (rs : List Nat) : (spC gr h c rs).length = rs.length + 1 := by simp [spC]
theorem spC_ones {gr h c : Nat} {rs : List Nat} : ∀ v ∈ (spC gr h c rs).toArray.toList, v.oneCell' = true := by
  intro v hv
  simp only [spC, List.mem_cons, List.mem_map] at hv
  rcases hv with rfl | ⟨x, _, rfl⟩ <;> rfl
theorem step_store_row8 {P : Program} {ops : Array Oper} {o : Oper} {a : Act} {w : World} {K : Act → World → Prop} {Q : Exit → Act → World → Prop} {F : Prop} (hw : Region.wanted o (yielded ops a.tmps) = true) (ty : TypeId) (x y : Operand) (ho : o.op = .store ty x y)
    (g : Nat) (cells : Array Value) (hx : a.eval x = .pointer (some ⟨g, 0, none⟩)) (hy : a.eval y = .agg cells) (t : TypeId) (cur : Array Value) (hg : w.heap[g]? = some (.cells cur t (0, 0))) (hi : (P.info? ty).map (·.size) = some cells.size)
    (hz : cur.size = cells.size) (h1 : ∀ v ∈ cells.toList, v.oneCell' = true) (h : K (a.put o.dst undef) (w.setRow g cells)) :
    if Region.wanted o (yielded ops a.tmps) = true then Oper.wp P o a w K Q else F := by
  rw [if_pos hw]
  refine wp_store_part ty x y ho g 0 cells hx hy t cur hg hi (by omega) h1 ?_
  have e : (cur.toList.take 0 ++ cells.toList ++ cur.toList.drop (0 + cells.size)).toArray = cells := by
    rw [List.take_zero, List.nil_append, List.drop_of_length_le (by rw [Array.length_toList]; omega), List.append_nil]
  rw [e]
  exact h
set_option maxRecDepth 100000 in
set_option maxHeartbeats 2000000 in
theorem rcopy_any {w : World} {base gs gr c : Nat} {l : List Bool} {rs : List Nat} (a : SpR w base gs gr c l rs) (hr : rs.length = 16) (h0 : 0 < l.length) (hl : l.length ≤ 4096) :
    Calls Tryz.prog 18 #[.pointer (some ⟨gs, 0, none⟩)] w fun e w' => ∃ gr' c', e = .returned (.agg (spC gr' l.length c' rs).toArray) ∧ OwnV 4 w' w.heap.size (.slice (some ⟨gr', 0, none⟩) l.length c') (l.map Value.bool) ∧ Below w.heap.size w w' := by
  have A := Lib.hid a
  have hgs : gs < w.heap.size := (Array.getElem?_eq_some_iff.1 a.blk).1
  have AB : Hid (∀ W, Below w.heap.size w W → SpR W base gs gr c l rs) := Lib.hid (fun W hb => by
    have hg2 : gr < w.heap.size := by
      obtain ⟨g', e, _, h2, _⟩ := a.row.at_ h0
      simp only [Option.some.injEq, Addr.mk.injEq, and_true] at e
      omega
    exact a.only (Only.of_below (S := fun _ => False) hb (Nat.le_refl _)) (fun h => h) (fun h => h))
  have HR := Lib.hid hr
  obtain ⟨h, hh⟩ : ∃ h, l.length = h := ⟨_, rfl⟩
  have HH := Lib.hid hh
  rw [hh] at h0 hl ⊢
  have LD0 : Hid (∀ W, Below w.heap.size w W → W.cell? ⟨gs, 0, none⟩ = some (.slice (some ⟨gr, 0, none⟩) h c)) := Lib.hid (fun W hb => by rw [← hh]; exact (AB.out W hb).cell0)
  clear a hr hh
  go_enter Tryz.func18, Tryz.ntmps18
  go_upto_region 1 with fail
  generalize hW1 : World.alloc _ _ = W1
  have b1 : Below w.heap.size w W1 := by rw [← hW1]; exact (Below.refl _ w).alloc (Nat.le_refl _) _
  have z1 : W1.heap[w.heap.size]? = some (.cells spZ.toArray 33 (0, 0)) := by rw [← hW1]; exact heap_alloc_new w _
  have hsz : W1.heap.size = w.heap.size + 1 := by rw [← hW1]; simp
  have Z1 := Lib.hid z1
  have B1 := Lib.hid b1
  clear z1 b1 hW1
  refine wp_region_held_drew (S := fun W => Below w.heap.size w W) (by kernel_rfl) B1.out.drew (fun hHeld => ?_)
  refine wpAnyH_take (i := 1) (v := ?v1a) (by simp only [List.getElem?_toArray, List.getElem?_cons_succ, List.getElem?_cons_zero]; rfl) (by kernel_rfl) (by kernel_rfl) (by kernel_rfl) (by exact fun _ _ _ h => h) (Or.inl ⟨by rfl, ?h1a⟩) (by assumption) ?_
  case h1a => (intro W hSw; (try dsimp only at hSw); go_simp; try with_reducible rfl)
  try simp only [Act.put, List.setIfInBounds_toArray, List.set_cons_zero, List.set_cons_succ]
  refine wpAnyH_take (i := 2) (v := ?v2a) (by simp only [List.getElem?_toArray, List.getElem?_cons_succ, List.getElem?_cons_zero]; rfl) (by kernel_rfl) (by kernel_rfl) (by kernel_rfl) (by exact fun _ _ _ h => h) (Or.inl ⟨by rfl, ?h2a⟩) (by assumption) ?_
  case h2a => (intro W hSw; (try dsimp only at hSw); go_simp; try with_reducible rfl)
  try simp only [Act.put, List.setIfInBounds_toArray, List.set_cons_zero, List.set_cons_succ]
  refine wpAnyH_take (i := 3) (v := ?v3a) (by simp only [List.getElem?_toArray, List.getElem?_cons_succ, List.getElem?_cons_zero]; rfl) (by kernel_rfl) (by kernel_rfl) (by kernel_rfl) (by exact fun _ _ _ h => h) (Or.inl ⟨by rfl, ?h3a⟩) (by assumption) ?_
  case h3a => (intro W hSw; (try dsimp only at hSw); go_simp; try with_reducible rfl)
  try simp only [Act.put, List.setIfInBounds_toArray, List.set_cons_zero, List.set_cons_succ]
  refine wpAnyH_take (i := 4) (by simp only [List.getElem?_toArray, List.getElem?_cons_succ, List.getElem?_cons_zero]; rfl) (by kernel_rfl) (by kernel_rfl) (by kernel_rfl) (by exact fun _ _ _ h => h) (yieldsIf_loadG (by rfl) 29 (.tmp 6) rfl ⟨gs, 0, none⟩ rfl (.slice (some ⟨gr, 0, none⟩) h c) (fun W hW => by have := LD0.out W hW; simp [loadVar, isAgg, run_underlying Tryz.underlying29, go_sem, this])) (by assumption) ?_
  try simp only [Act.put, List.setIfInBounds_toArray, List.set_cons_zero, List.set_cons_succ]
  refine wpAnyH_take (i := 6) (v := ?v6a) (by simp only [List.getElem?_toArray, List.getElem?_cons_succ, List.getElem?_cons_zero]; rfl) (by kernel_rfl) (by kernel_rfl) (by kernel_rfl) (by exact fun _ _ _ h => h) (Or.inl ⟨by rfl, ?h6a⟩) (by assumption) ?_
  case h6a => (intro W hSw; (try dsimp only at hSw); go_simp; try with_reducible rfl)
  try simp only [Act.put, List.setIfInBounds_toArray, List.set_cons_zero, List.set_cons_succ]
  refine wpAnyH_take (i := 7) (v := ?v7a) (by simp only [List.getElem?_toArray, List.getElem?_cons_succ, List.getElem?_cons_zero]; rfl) (by kernel_rfl) (by kernel_rfl) (by kernel_rfl) (by exact fun _ _ _ h => h) (Or.inl ⟨by rfl, ?h7a⟩) (by assumption) ?_
  case h7a => (intro W hSw; (try dsimp only at hSw); go_simp; try with_reducible rfl)
  try simp only [Act.put, List.setIfInBounds_toArray, List.set_cons_zero, List.set_cons_succ]
  refine wpAnyH_take (i := 8) (v := ?v8a) (by simp only [List.getElem?_toArray, List.getElem?_cons_succ, List.getElem?_cons_zero]; rfl) (by kernel_rfl) (by kernel_rfl) (by kernel_rfl) (by exact fun _ _ _ h => h) (Or.inl ⟨by rfl, ?h8a⟩) (by assumption) ?_
  case h8a => (intro W hSw; (try dsimp only at hSw); go_simp; try with_reducible rfl)
  try simp only [Act.put, List.setIfInBounds_toArray, List.set_cons_zero, List.set_cons_succ]
  refine wpAnyH_take (i := 9) (by simp only [List.getElem?_toArray, List.getElem?_cons_succ, List.getElem?_cons_zero]; rfl) (by kernel_rfl) (by kernel_rfl) (by kernel_rfl) (by exact fun _ _ _ h => h) (yieldsIf_loadG (by rfl) 31 (.tmp 11) rfl ⟨gs, 1, none⟩ rfl _ (fun W hW => (AB.out W hW).load_rt HR.out)) (by assumption) ?_
  try simp only [Act.put, List.setIfInBounds_toArray, List.set_cons_zero, List.set_cons_succ]
  refine wpAnyH_ready (rs := [0]) (by kernel_rfl) (by simp) ?_
  refine AllReadyH.cons (by simp only [List.getElem?_toArray, List.getElem?_cons_succ, List.getElem?_cons_zero]; rfl) (fun K hK => ?_) AllReadyH.nil
  go_simp
  generalize hWa : World.alloc _ _ = w2
  have b12 : Below W1.heap.size W1 w2.drew := by rw [← hWa]; exact ((Below.refl W1.heap.size W1).alloc (Nat.le_refl _) _).drew
  have S2 : Below w.heap.size w w2.drew := B1.out.trans (b12.mono (by rw [hsz]; exact Nat.le_succ _))
  have o2 : OwnV 4 w2.drew W1.heap.size (.slice (some ⟨W1.heap.size, 0, none⟩) 0 0) [] := by rw [← hWa]; exact (OwnV.empty 4 W1).drew
  have hnews : ∀ (j : Nat) (u : Value), (l.map Value.bool)[j]? = some u → w2.drew.cell? (Addr.add ⟨gr, 0, none⟩ j) = some u := by
    intro j u hj
    rw [List.getElem?_map] at hj
    cases hq : l[j]? with
    | none => rw [hq] at hj; cases hj
    | some x =>
      rw [hq] at hj
      have hj' : Value.bool x = u := by simpa using hj
      subst hj'
      rw [Addr.add_lit, Nat.zero_add]
      exact (AB.out w2.drew S2).at_ hq
  rw [hsz] at o2 b12
  clear hWa
  refine hK _ _ S2 (fun hH0 => ?_)
  clear hK K
  try simp only [Act.put, List.setIfInBounds_toArray, List.set_cons_zero, List.set_cons_succ]
  refine wpAnyH_ready (rs := [5]) (by kernel_rfl) (by simp) ?_
  refine AllReadyH.cons (by simp only [List.getElem?_toArray, List.getElem?_cons_succ, List.getElem?_cons_zero]; rfl) (fun K hK => ?_) AllReadyH.nil
  refine step_appV (by rfl) (.tmp 3) (.tmp 7) 29 4 _ 1 rfl Tryz.underlying29 infoBool rfl (w.heap.size + 1) _ [] (l.map Value.bool) rfl o2 ⟨gr, 0, none⟩ h c rfl (by rw [List.length_map]; exact HH.out.symm) hnews (fun u hu => by obtain ⟨x, _, rfl⟩ := List.mem_map.1 hu; rfl) (by simp; omega) (Nat.le_trans (Nat.le_of_eq hsz.symm) b12.size) ?_
  intro A3 n3 c3 w3 o3 _ b23 _
  rw [List.nil_append] at o3
  have S3 : Below w.heap.size w w3 := S2.trans (b23.mono (Nat.le_succ _))
  have hn3 := o3.len
  rw [List.length_map, HH.out] at hn3
  have hn3' := hn3.symm
  subst hn3'
  obtain ⟨g3, e3, _, _⟩ := o3.at_ h0
  subst e3
  refine hK _ _ S3 (fun hH5 => ?_)
  clear hK K
  try simp only [Act.put, List.setIfInBounds_toArray, List.set_cons_zero, List.set_cons_succ]
  refine wpAnyH_take (i := 10) (by simp only [List.getElem?_toArray, List.getElem?_cons_succ, List.getElem?_cons_zero]; rfl) (by kernel_rfl) (by kernel_rfl) (by kernel_rfl) (by exact fun _ _ _ h => h) (yieldsIf_build28 (by rfl) 33 0 1 (.tmp 8) (.tmp 12) rfl _ _ rfl rfl _ (built_sp g3 h c3 rs HR.out)) (by assumption) ?_
  try simp only [Act.put, List.setIfInBounds_toArray, List.set_cons_zero, List.set_cons_succ]
  refine wpAnyH_ready (rs := [11]) (by kernel_rfl) (by simp) ?_
  refine AllReadyH.cons (by simp only [List.getElem?_toArray, List.getElem?_cons_succ, List.getElem?_cons_zero]; rfl) (fun K hK => ?_) AllReadyH.nil
  have z3 : w3.heap[w.heap.size]? = some (.cells spZ.toArray 33 (0, 0)) := (b23.block _ (by omega)).trans ((b12.block _ (by omega)).trans Z1.out)
  refine step_store_row8 (by rfl) 33 (.tmp 2) (.tmp 13) rfl w.heap.size (spC g3 h c3 rs).toArray rfl rfl 33 _ z3 (by rw [List.size_toArray, spC_len, HR.out]; exact infoSpR) (by simp [spZ, spC, HR.out]) spC_ones ?_
  have S4 : Below w.heap.size w (w3.setRow w.heap.size (spC g3 h c3 rs).toArray) := below_setRow S3 (Nat.le_refl _) _
  refine hK _ _ S4 (fun hH11 => ?_)
  clear hK K
  try simp only [Act.put, List.setIfInBounds_toArray, List.set_cons_zero, List.set_cons_succ]
  refine wpAnyH_done (by kernel_rfl) ?_ _
  go_wp2_with fail
  refine bodyPost_ret (v := .agg (spC g3 h c3 rs).toArray) ?_ (by rfl) ?_
  · exact results_cell_row (p := 2) (ty := 33) rfl _ _ w.heap.size 33 (spC g3 h c3 rs).toArray _ _ rfl (setRow_heap _ _ _ _ 33 _ z3) Tryz.underlying33 rfl (by rw [List.size_toArray, spC_len, HR.out]; exact infoSpR)
  · have o4 := (OwnV.base_le o3 (Nat.le_succ w.heap.size)).only (only_setRow w3 w.heap.size (spC g3 h c3 rs).toArray) (fun k hk => by
      have := o3.lt k hk
      omega)
    exact ⟨g3, c3, rfl, o4, S4⟩
end Go.Proofs.YtjpicaofgiagdaaGreat
namespace Go.Proofs.YtjpicaofgiagdaaGreat
open Go.RowKit
set_option linter.unusedVariables false
set_option linter.unusedSimpArgs false

def zr16 : List Nat := List.replicate 16 0
theorem ownV_falses (w : World) (n : Nat) (hn : n ≤ 4096) : OwnV 4 (w.alloc (.cells ((List.replicate n false).map Value.bool).toArray 4)) w.heap.size (.slice (some ⟨w.heap.size, 0, none⟩) n n) ((List.replicate n false).map Value.bool) :=
  ⟨by simp, .inr ⟨w.heap.size, n, ((List.replicate n false).map Value.bool).toArray, by simp, Nat.le_refl _, heap_alloc_new w _, by simp, by simp only [maxLen]; omega, by simp, by simp⟩⟩
theorem madeZ8 (z : Value) (k N : Nat) (hk : 0 < k) : madeCells (List.replicate k z).toArray N = (List.replicate N z).toArray := by
  refine Array.ext (by simp [madeCells]) fun i h1 h2 => ?_
  have hm : i % k < k := Nat.mod_lt _ hk
  simp [madeCells, hm]
theorem wpList_makeBools8 {ops : Array Oper} {rest : List Oper} {o : Oper} {a : Act} {w : World} {Q : Exit → Act → World → Prop} (hg : o.guard = none) (l c : Operand) (hop : o.op = Op.makeSlice 29 l c)
    (n g : Nat) (hgs : w.heap.size = g) (hl : a.eval l = .int .i64 (n : Int)) (hc : a.eval c = .int .i64 (n : Int)) (hn : n ≤ 4096)
    (hK : wpList Tryz.prog ops Q rest (a.put o.dst (.slice (some ⟨g, 0, none⟩) n n)) (w.alloc (.cells ((List.replicate n false).map Value.bool).toArray 4))) : wpList Tryz.prog ops Q (o :: rest) a w := by
  subst hgs
  refine wpList_plain hg fun K hK' => ?_
  have hi : (Tryz.prog.info? 4).map (fun i => (i.zero, i.size, i.bytes)) = some (some (.bool false), 1, 1) := by kernel_rfl
  obtain ⟨i, h2, h3, h4, h5⟩ := info_parts hi
  have hrun := run_make (P := Tryz.prog) w 29 4 i _ Tryz.underlying29 h2 h3 .i64 .i64 (n : Int) (n : Int) (by omega) (by omega) (by rw [h5]; omega) (by omega)
  rw [Int.toNat_natCast, h4, show madeCells (Value.bool false).cells (n * 1) = ((List.replicate n false).map Value.bool).toArray from by
    have := madeZ8 (Value.bool false) 1 n (by omega)
    rw [Nat.mul_one, List.map_replicate]
    exact this] at hrun
  unfold Oper.wp execOp
  simp only [hop, hl, hc, Sem.run_bind, Sem.run_pure, Result.andThen_ok, hrun]
  exact hK' _ _ hK
theorem wpList_build8 {P : Program} {ops : Array Oper} {rest : List Oper} {o : Oper} {a : Act} {w : World} {Q : Exit → Act → World → Prop} (hg : o.guard = none) (t : TypeId) (i : Nat) (x : Operand) (ho : o.op = .build t #[(i, x)]) (v : Value) (hx : a.eval x = v)
    (cells : Array Value) (hf : P.built t [(i, v)] = some cells) (h : wpList P ops Q rest (a.put o.dst (.agg cells)) w) : wpList P ops Q (o :: rest) a w := by
  refine wpList_plain hg fun K hK => ?_
  unfold Oper.wp execOp
  simp only [ho, Sem.run_bind, List.map_toArray, List.map_cons, List.map_nil, hx, run_build w t _ _ hf, Result.andThen_ok]
  exact hK _ _ h
theorem wpList_store_row8 {P : Program} {ops : Array Oper} {rest : List Oper} {o : Oper} {a : Act} {w : World} {Q : Exit → Act → World → Prop} (hgd : o.guard = none) (ty : TypeId) (x y : Operand) (ho : o.op = .store ty x y)
    (g : Nat) (cells : Array Value) (hx : a.eval x = .pointer (some ⟨g, 0, none⟩)) (hy : a.eval y = .agg cells) (t : TypeId) (cur : Array Value) (hg : w.heap[g]? = some (.cells cur t (0, 0))) (hi : (P.info? ty).map (·.size) = some cells.size)
    (hz : cur.size = cells.size) (h1 : ∀ v ∈ cells.toList, v.oneCell' = true) (h : wpList P ops Q rest (a.put o.dst undef) (w.setRow g cells)) : wpList P ops Q (o :: rest) a w := by
  refine wpList_plain hgd fun K hK => wp_store_part ty x y ho g 0 cells hx hy t cur hg hi (by omega) h1 ?_
  have e : (cur.toList.take 0 ++ cells.toList ++ cur.toList.drop (0 + cells.size)).toArray = cells := by
    rw [List.take_zero, List.nil_append, List.drop_of_length_le (by rw [Array.length_toList]; omega), List.append_nil]
  rw [e]
  exact hK _ _ h
theorem wpList_load8 {P : Program} {ops : Array Oper} {rest : List Oper} {o : Oper} {a : Act} {w : World} {Q : Exit → Act → World → Prop} (hg : o.guard = none) (ty : TypeId) (x : Operand) (ho : o.op = .load ty x)
    (ad : Addr) (hx : a.eval x = .pointer (some ad)) (v : Value) (hl : (loadVar ty ad).run P w = .ok v w) (h : wpList P ops Q rest (a.put o.dst v) w) : wpList P ops Q (o :: rest) a w := by
  refine wpList_plain hg fun K hK => ?_
  unfold Oper.wp execOp
  simp only [ho, hx, Instr.loadAt, Instr.sureAddr, Sem.run_bind, Sem.run_pure, Result.andThen_ok, hl]
  exact hK _ _ h
theorem built_sp1 (gr h c : Nat) : Tryz.prog.built 33 [(0, .slice (some ⟨gr, 0, none⟩) h c)] = some (spC gr h c zr16).toArray := by
  rw [built_sp0, fill_step _ _ 0 _ _ 0 1 rfl rfl (by simp [spZ])]
  have e : spZ.toArray.toList.take 0 ++ (Value.slice (some ⟨gr, 0, none⟩) h c).cells.toList ++ spZ.toArray.toList.drop (0 + 1) = spC gr h c zr16 := by
    simp [spZ, Value.cells, spC, zr16]
  rw [e]
  rfl
theorem SpR.load_all {w : World} {base gs gr c : Nat} {l : List Bool} {rs : List Nat} (a : SpR w base gs gr c l rs) (hr : rs.length = 16) : (loadVar 33 ⟨gs, 0, none⟩).run Tryz.prog w = .ok (.agg (spC gr l.length c rs).toArray) w := by
  have hc' : (loadCells ⟨gs, 0, none⟩ (spC gr l.length c rs).length).run Tryz.prog w = .ok (spC gr l.length c rs).toArray w :=
    run_loadCells_list (P := Tryz.prog) w ⟨gs, 0, none⟩ (spC gr l.length c rs) (fun j v hv => by
      rw [Addr.add_lit, Nat.zero_add, cell_of_row _ _ _ _ _ _ a.blk]
      simp only [List.getElem?_toArray]
      exact hv)
  rw [spC_len, hr] at hc'
  have hi := infoSpR
  cases hq : Tryz.prog.info? 33 with
  | none => simp [hq] at hi
  | some i =>
    have hs : i.size = 17 := by simpa [hq] using hi
    have hagg : (isAgg 33).run Tryz.prog w = .ok true w := by
      unfold isAgg
      rw [Sem.run_bind, run_underlying Tryz.underlying33 w]
      rfl
    simp [loadVar, Sem.run_bind, hagg, sizeOf, typeInfo, hq, hs, hc']
/-- The space made new, its row of booleans all false. -/
structure N8 (w W : World) (gs gr n : Nat) : Prop where
  bel : Below w.heap.size w W
  out : W.heap[w.heap.size]? = some (.cells spZ.toArray 33 (0, 0))
  sp : SpR W w.heap.size gs gr n (List.replicate n false) zr16
  ns : w.heap.size < gs
  nr : w.heap.size < gr
set_option maxRecDepth 100000 in
set_option maxHeartbeats 600000 in
theorem rnew_any (w : World) (n : Nat) (h0 : 4 ≤ n) (hl : n ≤ 4096) :
    Calls Tryz.prog 17 #[.int .i64 (n : Int)] w fun e w' => ∃ (gr : Nat) (l : List Bool), e = .returned (.agg (spC gr n n zr16).toArray) ∧ OwnV 4 w' w.heap.size (.slice (some ⟨gr, 0, none⟩) n n) (l.map Value.bool) ∧ l.length = n ∧ (∀ x, x < n → l[x]? = some (decide (x < 4))) ∧ Below w.heap.size w w' := by
  have HL := Lib.hid hl
  go_enter Tryz.func17, Tryz.ntmps17
  go_upto_region 1 with fail
  generalize hW1 : World.alloc _ _ = W1
  have b1 : Below w.heap.size w W1 := by rw [← hW1]; exact (Below.refl _ w).alloc (Nat.le_refl _) _
  have z1 : W1.heap[w.heap.size]? = some (.cells spZ.toArray 33 (0, 0)) := by rw [← hW1]; exact heap_alloc_new w _
  have hsz : W1.heap.size = w.heap.size + 1 := by rw [← hW1]; simp
  have Z1 := Lib.hid z1
  have B1 := Lib.hid b1
  clear z1 b1 hW1
  go_upto_region 2 with (first
    | (refine wpList_makeBools8 rfl (.tmp 5) (.tmp 5) rfl n (w.heap.size + 1) hsz rfl rfl hl ?_
       generalize hWa : World.alloc _ _ = wa
       have ba : Below (w.heap.size + 1) W1 wa := by rw [← hWa, ← hsz]; exact (Below.refl _ _).alloc (Nat.le_refl _) _
       have oa : OwnV 4 wa (w.heap.size + 1) (.slice (some ⟨w.heap.size + 1, 0, none⟩) n n) ((List.replicate n false).map Value.bool) := by rw [← hWa, ← hsz]; exact ownV_falses _ n hl
       have hsa : wa.heap.size = w.heap.size + 2 := by rw [← hWa]; simp [hsz]
       have BA := Lib.hid ba
       have OA := Lib.hid oa
       clear hWa ba oa))
  generalize hWc : World.alloc _ _ = wc
  have NN : Hid (N8 w wc (w.heap.size + 2) (w.heap.size + 1) n) := Lib.hid (by
    have bb : Below (w.heap.size + 2) wa wc := by rw [← hWc, ← hsa]; exact (Below.refl _ _).alloc (Nat.le_refl _) _
    have zb : wc.heap[w.heap.size + 2]? = some (.cells (spC (w.heap.size + 1) n n zr16).toArray 33 (0, 0)) := by rw [← hWc, ← hsa]; exact heap_alloc_new _ _
    have ob := OA.out.below (w' := wc) (by rw [hsa]; exact bb)
    refine ⟨(B1.out.trans (BA.out.mono (by omega))).trans (bb.mono (by omega)), (bb.block _ (by omega)).trans ((BA.out.block _ (by omega)).trans Z1.out), ⟨?_, ?_, by omega⟩, by omega, by omega⟩
    · rw [List.length_replicate]; exact zb
    · rw [List.length_replicate]; exact OwnV.base_le ob (by omega))
  clear hWc hsz hsa BA OA B1 Z1
  obtain ⟨gs, hgs⟩ : ∃ g, w.heap.size + 2 = g := ⟨_, rfl⟩
  obtain ⟨gr, hgr⟩ : ∃ g, w.heap.size + 1 = g := ⟨_, rfl⟩
  rw [hgs, hgr] at NN
  simp only [hgs, hgr]
  clear hgs hgr
  go_wp2_with fail
  go_loopw [4] (fun i wr => ∃ (k : Nat) (l : List Bool), k ≤ 4 ∧ i = .int .i64 (k : Int) ∧ l.length = n ∧ SpR wr w.heap.size gs gr n l zr16 ∧ (∀ x, x < n → l[x]? = some (decide (x < k))) ∧ Below w.heap.size w wr ∧ wr.heap[w.heap.size]? = some (.cells spZ.toArray 33 (0, 0))) (fun i _ => 4 - (intOf i).toNat)
  case atStart => exact ⟨0, _, by omega, rfl, List.length_replicate, NN.out.sp, fun x hx => by rw [List.getElem?_replicate, if_pos hx]; simp, NN.out.bel, NN.out.out⟩
  case round =>
    obtain ⟨k, l, hk, rfl, hln, qs, qu, qb, qz⟩ := hrel
    have QS := Lib.hid qs
    have QU := Lib.hid qu
    have QB := Lib.hid qb
    have QZ := Lib.hid qz
    have QL := Lib.hid hln
    have kq := qs.cell0
    rw [hln] at kq
    clear qs qu qb qz hln
    by_cases hlt : k < 4
    · obtain ⟨v, hv⟩ : ∃ v, l[k]? = some v := ⟨_, QU.out k (by omega)⟩
      have kv := QS.out.at_ hv
      have fv := QS.out.free k
      have hkn : k < n := by omega
      clear hv
      go_wp2_with fail
      go_roundw
      case rel => exact ⟨k + 1, l.set k true, by omega, by go_num, by rw [List.length_set]; exact QL.out, QS.out.set (by rw [QL.out]; exact hkn) true, fun x hx => by
        rw [List.getElem?_set]
        by_cases he : k = x
        · rw [if_pos he, if_pos (by rw [QL.out]; exact hkn), decide_eq_true (p := x < k + 1) (by omega)]
        · rw [if_neg he, QU.out x hx, show decide (x < k + 1) = decide (x < k) from decide_eq_decide.2 (by omega)], QB.out.setCell (Nat.le_of_lt NN.out.nr) _, (heap_setCell_other _ _ _ _ (by have := NN.out.nr; simp only []; omega)).trans QZ.out⟩
      case measure => simp [intOf]; omega
    · obtain rfl : k = 4 := by omega
      have LA := Lib.hid (QS.out.load_all rfl)
      go_wp2_with (first
        | (refine wpList_load8 rfl 33 (.tmp 3) rfl _ rfl _ LA.out ?_)
        | (refine wpList_store_row8 rfl 33 (.tmp 2) (.tmp 21) rfl w.heap.size (spC gr n n zr16).toArray rfl (by rw [QL.out]; rfl) 33 _ QZ.out (by rw [List.size_toArray, spC_len]; exact infoSpR) (by simp [spZ, spC, zr16]) spC_ones ?_))
      refine bodyPost_ret (v := .agg (spC gr n n zr16).toArray) ?_ (by rfl) ?_
      · exact results_cell_row (p := 2) (ty := 33) rfl _ _ w.heap.size 33 (spC gr n n zr16).toArray _ _ rfl (setRow_heap _ _ _ _ 33 _ QZ.out) Tryz.underlying33 rfl (by rw [List.size_toArray, spC_len]; exact infoSpR)
      · have nr := NN.out.nr
        have o4 := QS.out.row.only (only_setRow wr w.heap.size (spC gr n n zr16).toArray) (fun k hk => by
          have h9 : some gr = some k := hk
          injection h9 with h9
          omega)
        rw [QL.out] at o4
        exact ⟨gr, l, rfl, o4, QL.out, QU.out, below_setRow QB.out (Nat.le_refl _) _⟩
end Go.Proofs.YtjpicaofgiagdaaGreat
namespace Go.Proofs.YtjpicaofgiagdaaGreat
open Go.RowKit Go.Deep Go.ChangeShapes
set_option linter.unusedVariables false
set_option linter.unusedSimpArgs false

structure Op8R where
  kind : Int
  at_ : Int
  n : Int
  v : Int
def Op8R.cells (o : Op8R) : List Value := [.int .i64 o.kind, .int .i64 o.at_, .int .i64 o.n, .int .u32 o.v]
structure Op8Ok (o : Op8R) : Prop where
  bk : -9223372036854775808 ≤ o.kind ∧ o.kind ≤ 9223372036854775807
  ba : -9223372036854775808 ≤ o.at_ ∧ o.at_ ≤ 9223372036854775807
  bn : -9223372036854775808 ≤ o.n ∧ o.n ≤ 9223372036854775807
  bv : 0 ≤ o.v ∧ o.v ≤ 4294967295
def HasOps8 (w : World) (B : Nat) (A : Option Addr) (n : Nat) (ops : List Op8R) : Prop :=
  n = ops.length ∧ (∀ op ∈ ops, Op8Ok op) ∧ (0 < n → ∃ g o, A = some ⟨g, o, none⟩ ∧ g < B ∧ ∀ i op, ops[i]? = some op → ∀ k v, op.cells[k]? = some v → w.cell? ⟨g, o + (4 * i + k), none⟩ = some v)
theorem HasOps8.below {w w' : World} {B n : Nat} {A : Option Addr} {ops : List Op8R} (h : HasOps8 w B A n ops) (hb : Below B w w') : HasOps8 w' B A n ops :=
  ⟨h.1, h.2.1, fun hn => by
    obtain ⟨g, o, e, hg, hc⟩ := h.2.2 hn
    exact ⟨g, o, e, hg, fun i op hi k v hk => (hb.cell (by exact hg)).trans (hc i op hi k v hk)⟩⟩

theorem cellsOp8 : Tryz.prog.cellsOf 38 = 4 := by kernel_rfl
theorem cellsI8 : Tryz.prog.cellsOf 3 = 1 ∧ Tryz.prog.cellsOf 30 = 1 := ⟨by kernel_rfl, by kernel_rfl⟩
theorem bounds_u32' {z : Int} (h : (Lit.int .u32 z).wf = true) : 0 ≤ z ∧ z ≤ 4294967295 := by
  simp [Lit.wf, IntKind.min, IntKind.max, IntKind.signed, IntKind.bits] at h
  omega
section
variable {H : Type} {enc : TypeId × Value → H} {W : World} {held : Bool} {fuel len cap : Nat} {a : Option Addr} {x : DataW H × List MemPlace}
set_option maxRecDepth 100000 in
/-- A list of operations that came in. -/
theorem ops8_open (h : DataW.trod enc Tryz.prog W 0 (fun _ => true) held fuel 22 [.slice a len cap] = some x) : ∃ ops, HasOps8 W W.heap.size a len ops ∧ len ≤ cap ∧ cap ≤ maxLen := by
  rcases open_slice Tryz.underlying22 h with ⟨hcs, _⟩ | ⟨y, l2, c2, m, n, D, Pl, hcs, _, hl, hm, hmm, _, hx⟩
  · simp only [List.cons.injEq, Value.slice.injEq, and_true] at hcs
    obtain ⟨rfl, rfl, rfl⟩ := hcs
    exact ⟨[], ⟨rfl, fun x hx => absurd hx (by simp), fun h => absurd h (by simp)⟩, Nat.le_refl _, by simp⟩
  · simp only [List.cons.injEq, Value.slice.injEq, and_true] at hcs
    obtain ⟨rfl, rfl, rfl⟩ := hcs
    simp only [if_true] at hmm
    subst hmm
    have each : ∀ r, ∃ op : Op8R, r < len → Op8Ok op ∧ ∀ k v, op.cells[k]? = some v → W.cell? (y.add (4 * r + k)) = some v := by
      intro r
      by_cases hr : r < len
      · obtain ⟨cs', h1, h2⟩ := hx r (by omega)
        rw [cellsOp8] at h1
        obtain ⟨_, hlen, hcell⟩ := World.cells?_some h1
        obtain ⟨xs, k, _, _, _, hxl, hf⟩ := DataW.trod_struct Tryz.underlying38 h2
        match xs, hxl, cs', hlen with
        | [y0, y1, y2, y3], _, [v0, v1, v2, v3], _ =>
          have g0 := hf 0 _ rfl
          have g1 := hf 1 _ rfl
          have g2 := hf 2 _ rfl
          have g3 := hf 3 _ rfl
          simp [cellsI8.1, cellsI8.2] at g0 g1 g2 g3
          obtain ⟨z0, e0, _, b0⟩ := DataW.trod_int Tryz.underlying3 g0
          obtain ⟨z1, e1, _, b1⟩ := DataW.trod_int Tryz.underlying3 g1
          obtain ⟨z2, e2, _, b2⟩ := DataW.trod_int Tryz.underlying3 g2
          obtain ⟨z3, e3, _, b3⟩ := DataW.trod_int Tryz.underlying30 g3
          simp only [List.cons.injEq, and_true] at e0 e1 e2 e3
          subst e0 e1 e2 e3
          refine ⟨⟨z0, z1, z2, z3⟩, fun _ => ⟨⟨bounds_i64 b0, bounds_i64 b1, bounds_i64 b2, bounds_u32' b3⟩, fun k v hk => ?_⟩⟩
          have hk4 : k < 4 := by
            have := (List.getElem?_eq_some_iff.1 hk).1
            simpa [Op8R.cells] using this
          have := hcell k (by omega)
          rw [add_add, Nat.mul_comm r 4] at this
          rw [this]
          exact hk
      · exact ⟨⟨0, 0, 0, 0⟩, fun q => absurd q hr⟩
    refine ⟨(List.range len).map fun r => Classical.choose (each r), ⟨by simp, fun p hp => ?_, fun hpos => ?_⟩, hl, hm⟩
    · obtain ⟨r, hr, rfl⟩ := List.mem_map.1 hp
      exact (Classical.choose_spec (each r) (List.mem_range.1 hr)).1
    · obtain ⟨g, o, s⟩ := y
      have c0 := (Classical.choose_spec (each 0) hpos).2 0 _ rfl
      have hs : s = none := by
        have := World.cell?_spot c0
        simpa [Addr.add] using this
      subst hs
      refine ⟨g, o, rfl, ?_, fun i op hi => ?_⟩
      · have := World.block_lt_of_cell? W _ c0
        simpa [Addr.add] using this
      · have hlt : i < len := by
          have := (List.getElem?_eq_some_iff.1 hi).1
          simpa using this
        simp only [List.getElem?_map, List.getElem?_range hlt, Option.map_some, Option.some.injEq] at hi
        subst hi
        obtain ⟨h1, h2⟩ := Classical.choose_spec (each i) hlt
        intro k v hk
        have := h2 k v hk
        rwa [Addr.add_lit] at this
end
end Go.Proofs.YtjpicaofgiagdaaGreat
