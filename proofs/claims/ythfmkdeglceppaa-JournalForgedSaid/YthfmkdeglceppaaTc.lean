/-
  Own work. Does a list of what is to be committed have a home (twice); a text stored into a row of texts; a commit beside blocks of the call's own.
-/
import Derived.Test.YthfmkdeglceppaaHm
namespace Go.Proofs.Ythfmkdeglceppaa
open Go.RowKit Go.Maps
set_option linter.unusedVariables false
set_option linter.unusedSimpArgs false

set_option maxRecDepth 100000 in
set_option maxHeartbeats 2000000 in
theorem twice_any {W : World} {base n c : Nat} {A : Option Addr} {l : List PuR} (h : PRow W base (.slice A n c) l) (hn : n ≤ 1000) (x : Int) (hx : -9223372036854775808 ≤ x ∧ x ≤ 9223372036854775807) :
    Calls Try.prog 25 #[.slice A n c, .int .i64 x] W (RetQ W (.bool (decide (x ∈ l.map PuR.i)))) := by
  have hl := h.len
  have H := Lib.hid h
  have HL := Lib.hid hl
  obtain ⟨R, hR⟩ : ∃ R, decide (x ∈ l.map PuR.i) = R := ⟨_, rfl⟩
  have HR := Lib.hid hR
  rw [hR]
  clear h hl hR
  go_enter Try.func25, Try.ntmps25
  go_wp2_with fail
  go_loopw [5] (fun i wr => ∃ k q : Nat, k ≤ n ∧ i = .int .i64 (k : Int) ∧ x ∉ (l.take k).map PuR.i ∧ wr = W.drewN q) (fun i _ => n - (Go.RowKit.intOf i).toNat)
  case atStart => exact ⟨0, 0, Nat.zero_le _, rfl, by simp, rfl⟩
  case round =>
    obtain ⟨k, q, hk, rfl, ht, hw⟩ := hrel
    obtain ⟨wz, rfl⟩ : ∃ W, W = wr := ⟨_, rfl⟩
    have HW := Lib.hid hw
    have HT := Lib.hid ht
    by_cases hlt : k < n
    · obtain ⟨y, hy⟩ : ∃ y, l[k]? = some y := ⟨_, List.getElem?_eq_getElem (by rw [← HL.out]; exact hlt)⟩
      obtain ⟨g, cur, rfl, _⟩ := H.out.row (by omega)
      obtain ⟨h1, _⟩ := H.out.cells hy
      have c1 : wz.cell? ⟨g, k * 2, none⟩ = some (.int .i64 y.i) := by rw [HW.out]; exact h1
      obtain ⟨yi, hyi⟩ : ∃ yi, y.i = yi := ⟨_, rfl⟩
      rw [hyi] at c1
      have HY := Lib.hid hy
      have HYI := Lib.hid hyi
      clear h1 hy hyi hw ht
      by_cases hxy : yi = x
      · have hb : ((yi : Int) == x) = true := by rw [hxy]; exact beq_self_eq_true _
        have RV : Hid (R = true) := Lib.hid (by
          rw [← HR.out]
          refine decide_eq_true ?_
          rw [← hxy, ← HYI.out]
          exact List.mem_map_of_mem (List.mem_of_getElem? HY.out))
        clear hxy
        go_wp2_with fail
        go_ret
        rw [RV.out]
        exact ⟨rfl, q, HW.out⟩
      · have hb : ((yi : Int) == x) = false := by rw [beq_eq_false_iff_ne]; exact hxy
        have TK : Hid (x ∉ (l.take (k + 1)).map PuR.i) := Lib.hid (by
          rw [List.take_add_one, HY.out, List.map_append, List.mem_append]
          rintro (hh | hh)
          · exact HT.out hh
          · simp at hh
            exact hxy (by rw [← HYI.out]; exact hh.symm))
        clear hxy
        go_wp2_with fail
        go_roundw
        case rel => exact ⟨k + 1, q, by omega, by go_num, TK.out, HW.out⟩
        case measure => simp [Go.RowKit.intOf]; omega
    · obtain rfl : k = n := by omega
      have RV : Hid (R = false) := Lib.hid (by
        rw [← HR.out]
        have := HT.out
        rw [List.take_of_length_le (by rw [← HL.out]; exact Nat.le_refl _)] at this
        exact decide_eq_false this)
      clear hw ht
      go_wp2_with fail
      go_ret
      rw [RV.out]
      exact ⟨rfl, q, HW.out⟩
/-- A value stored into a row of the call's own. -/
theorem OwnV.set {E : TypeId} {w : World} {base n c g k : Nat} {hs : List Value} {u : Value} (h : OwnV E w base (.slice (some ⟨g, 0, none⟩) n c) hs) (hk : k < hs.length) (hu : u.oneCell' = true) : OwnV E (w.setCell ⟨g, k, none⟩ u) base (.slice (some ⟨g, 0, none⟩) n c) (hs.set k u) := by
  rcases h.form with ⟨e, rfl⟩ | ⟨g', c', cur, e, hb, hlt, hg, h1, h2, h3, h4⟩
  · simp at hk
  · simp only [Value.slice.injEq, Option.some.injEq, Addr.mk.injEq, and_true] at e
    obtain ⟨rfl, rfl, rfl⟩ := e
    have hs' := heap_setCell_same w g k cur E u hg
    have hl : cur.toList.length = c := by rw [Array.length_toList]; exact h3
    refine ⟨by rw [Nat.mul_one], .inr ⟨g, c, _, by rw [List.length_set], hb, hs', by rw [List.length_set]; exact h1, h2, by rw [Array.size_setIfInBounds, h3, Nat.mul_one], ?_⟩⟩
    rw [Nat.mul_one, List.length_set, Array.toList_setIfInBounds]
    apply List.ext_getElem?
    intro j
    rw [List.getElem?_take, List.getElem?_set, List.getElem?_set]
    have hj : ∀ j, j < hs.length → cur.toList[j]? = hs[j]? := fun j hj => by rw [← h4, List.getElem?_take, if_pos hj]
    by_cases hjl : j < hs.length
    · rw [if_pos hjl]
      by_cases hkj : k = j
      · rw [if_pos hkj, if_pos hkj, if_pos (by omega), if_pos hk]
      · rw [if_neg hkj, if_neg hkj]
        exact hj j hjl
    · rw [if_neg hjl, if_neg (by omega), List.getElem?_eq_none (by omega)]
theorem UpB.commit {Z : DK} {w0 W : World} {g gd gp n V T u r : Nat} {p : Pt} {j : JM} {H : Nat → List UInt8} {B : Nat → Prop} (a : UpB Z w0 W g gd gp n p j B) (b : SJ p n V j T u r H) (hV : V ≤ 1073000000) (A : Option Addr) (nl cl : Nat) (l : List Pu) (hp : HasPu W A nl l) (hn : nl ≤ 1000) (hdl : ∀ x ∈ l, x.data.length ≤ 1073741824) :
    Calls Try.prog 21 #[.pointer (some ⟨g, 0, none⟩), .slice A nl cl] W fun en W' => en = .returned (.int .i64 (cmt p n j l).e) ∧ UpB Z w0 W' g gd gp n (cmt p n j l).p (cmt p n j l).j B ∧ Only (fun k => ¬ B k) W W' := by
  obtain ⟨b1, b2, b3, b4, b5, b6, b7, b8, b9, b10, b11, b12⟩ := b.homes
  obtain ⟨_, ok, _, hw, _, _⟩ := b.jok hV
  obtain ⟨S, d, o, h1, h2, h3, h4, h5⟩ := a
  refine (jcommit_any A nl cl l o d.d ⟨h1, h2, o.lt, o.ltp, o.ne⟩ ok (by omega) hp hn hdl (by rw [b2, b4]; exact b9)).mono ?_
  rintro en W' ⟨he, lj⟩
  obtain ⟨⟨S2, d2, hs2⟩, o2, y2⟩ := lj
  have hlt := o.lt
  have hltp := o.ltp
  have hz := d.bel.size
  have hys := y2.size
  refine ⟨he, ⟨S2, ⟨d2, fun k hk => (hs2 k hk).elim (d.s0 k) (fun h => by omega), d.bel.trans (y2.to_below (fun k hk => ?_) hz)⟩, o2, fun hh => (hs2 g hh).elim h1 (fun h => by omega), fun hh => (hs2 gp hh).elim h2 (fun h => by omega), h3, h4, fun k hk => ?_⟩, y2.mono (fun k _ hk hb => ?_)⟩
  · rcases hk with h | h | h
    · exact d.s0 k h
    · omega
    · omega
  · obtain ⟨q1, q2, q3, q4, q5⟩ := h5 k hk
    exact ⟨fun hh => (hs2 k hh).elim q1 (fun h => by omega), q2, q3, q4, by omega⟩
  · obtain ⟨q1, q2, q3, q4, q5⟩ := h5 k hb
    rcases hk with h | h | h
    · exact q1 h
    · exact q2 h
    · exact q3 h
end Go.Proofs.Ythfmkdeglceppaa
