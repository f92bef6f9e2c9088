/-
  Own work. The statements of layer 6: JournalBounds.
-/
import Derived.Test.YtkbbpkbchniddaaPr
import Derived.Test.YtkbbpkbchniddaaPl
namespace Go.Proofs.Ytkbbpkbchniddaa
open Go.RowKit Go.Maps
set_option linter.unusedVariables false
set_option linter.unusedSimpArgs false

theorem lsE_pre (h : Nat) (x : Pu) : ∀ (l : List Pu) (seen : List Int), (∀ y ∈ l, 0 ≤ y.i ∧ y.i < h ∧ y.data.length = 512 ∧ y.i ∉ seen) → (l.map Pu.i).Nodup → lsE h seen (l ++ [x]) = lsE h ((l.map Pu.i).reverse ++ seen) [x]
  | [], _, _, _ => rfl
  | y :: r, seen, h1, h2 => by
    rw [List.map_cons, List.nodup_cons] at h2
    obtain ⟨j1, j2, j3, j4⟩ := h1 y (by simp)
    rw [List.cons_append, lsE, if_neg (by rintro (hh | hh | hh); exact j4 hh; omega; omega), if_neg (fun hh => hh j3), lsE_pre h x r (y.i :: seen) (fun z hz => ?_) h2.2, List.map_cons, List.reverse_cons, List.append_assoc]
    · rfl
    · obtain ⟨k1, k2, k3, k4⟩ := h1 z (by simp [hz])
      refine ⟨k1, k2, k3, fun hh => ?_⟩
      rcases List.mem_cons.1 hh with hh | hh
      · exact h2.1 (by rw [← hh]; exact List.mem_map_of_mem hz)
      · exact k4 hh
/-- The homes 0 .. k-1, with zeros. -/
def zl (k : Nat) : List Pu := (List.range k).map fun (i : Nat) => ⟨(i : Int), zer 512⟩
theorem zl_i (k : Nat) : (zl k).map Pu.i = (List.range k).map fun (i : Nat) => (i : Int) := by unfold zl; rw [List.map_map]; rfl
theorem zl_end (h k : Nat) (hk : k ≤ h) (x : Pu) : lsE h [] (zl k ++ [x]) = if x.i < 0 ∨ (h : Int) ≤ x.i ∨ x.i < k then 1 else if x.data.length ≠ 512 then 9 else 0 := by
  rw [lsE_pre h x (zl k) [] (fun y hy => ?_) ?_, List.append_nil, zl_i, lsE, lsE]
  · have hm : x.i ∈ ((List.range k).map fun (i : Nat) => (i : Int)).reverse ↔ 0 ≤ x.i ∧ x.i < k := by
      rw [List.mem_reverse, List.mem_map]
      constructor
      · rintro ⟨a, ha, e⟩
        rw [List.mem_range] at ha
        omega
      · rintro ⟨h1, h2⟩
        exact ⟨x.i.toNat, by rw [List.mem_range]; omega, by omega⟩
    by_cases hb : x.i < 0 ∨ (h : Int) ≤ x.i ∨ x.i < k
    · rw [if_pos hb, if_pos]
      rcases hb with h1 | h1 | h1
      · exact .inr (.inl h1)
      · exact .inr (.inr h1)
      · by_cases h2 : x.i < 0
        · exact .inr (.inl h2)
        · exact .inl (hm.2 ⟨by omega, h1⟩)
    · rw [if_neg hb, if_neg]
      rintro (h1 | h1 | h1)
      · have := hm.1 h1; omega
      · omega
      · omega
  · rw [zl_i]
    unfold List.Nodup
    rw [List.pairwise_map]
    exact List.nodup_range.imp (fun {a b} hab hh => hab (by omega))
  · unfold zl at hy
    obtain ⟨a, ha, rfl⟩ := List.mem_map.1 hy
    rw [List.mem_range] at ha
    exact ⟨by show (0 : Int) ≤ (a : Int); omega, by show (a : Int) < (h : Int); omega, zer_len 512, by simp⟩
theorem zl_snoc (k : Nat) : zl (k + 1) = zl k ++ [⟨(k : Int), zer 512⟩] := by unfold zl; rw [List.range_succ, List.map_append]; rfl
/-- What Commit answers to j2 good sectors and one more. -/
def boE (z hm j2 sz r : Int) : Int := if z < 0 ∨ hm ≤ z ∨ z < j2 then 1 else if sz ≠ 512 then 9 else if 40 < j2 + 1 ∨ r ≤ j2 + 1 then 2 else 0
theorem bo_commit {Z : DK} {w W : World} {g gd gp r j2 sz : Nat} {p : Pt} {j : JM} {H : Nat → List UInt8} {z : Int} (a : UpJ Z w W g gd gp 140 p j) (b : SJ p 140 282 j 1 0 r H) (hj : j2 < 45) (hsz : sz ≤ 514) (hz : -9223372036854775808 ≤ z ∧ z ≤ 9223372036854775807) (hr : r ≤ 57) (A : Option Addr) (nl cl : Nat) (hn : nl = j2 + 1) (hp : HasPu W A nl (zl j2 ++ [⟨z, zer sz⟩])) :
    Calls Try.prog 24 #[.pointer (some ⟨g, 0, none⟩), .slice A nl cl] W fun en W' => en = .returned (.int .i64 (boE z ((140 - 2 - r : Nat) : Int) j2 sz r)) ∧ ∃ p' j' u' V' H', UpJ Z w W' g gd gp 140 p' j' ∧ SJ p' 140 V' j' (if boE z ((140 - 2 - r : Nat) : Int) j2 sz r = 0 then 2 else 1) u' r H' := by
  have hzl : (zl j2).length = j2 := by unfold zl; rw [List.length_map, List.length_range]
  have hc := commit_up a b (by omega) A nl cl _ hp (by omega) (by
    intro x hx
    rcases List.mem_append.1 hx with hx | hx
    · unfold zl at hx
      obtain ⟨i, _, rfl⟩ := List.mem_map.1 hx
      show (zer 512).length ≤ _
      rw [zer_len]; omega
    · rw [List.mem_singleton] at hx
      subst hx
      show (zer sz).length ≤ _
      rw [zer_len]; omega)
  obtain ⟨b1, b2, _⟩ := b.homes
  have hE : lstE 140 j (zl j2 ++ [⟨z, zer sz⟩]) = boE z ((140 - 2 - r : Nat) : Int) j2 sz r := by
    unfold lstE boE
    rw [b1, zl_end _ j2 (by omega), b2, List.length_append, hzl]
    show (if (if z < 0 ∨ ((140 - 2 - r : Nat) : Int) ≤ z ∨ z < (j2 : Int) then (1 : Int) else if (zer sz).length ≠ 512 then 9 else 0) ≠ 0 then _ else if 40 < j2 + 1 ∨ r ≤ j2 + 1 then (2 : Int) else 0) = _
    rw [zer_len]
    by_cases h1 : z < 0 ∨ ((140 - 2 - r : Nat) : Int) ≤ z ∨ z < (j2 : Int)
    · rw [if_pos h1, if_pos (by decide), if_pos h1]
    · rw [if_neg h1, if_neg h1]
      by_cases h2 : sz ≠ 512
      · rw [if_pos h2, if_pos (by decide), if_pos (by omega)]
      · have h2' : ¬ ((sz : Int) ≠ 512) := by omega
        rw [if_neg h2, if_neg (by decide), if_neg h2']
        by_cases h3 : 40 < j2 + 1 ∨ r ≤ j2 + 1
        · have h3' : 40 < (j2 : Int) + 1 ∨ (r : Int) ≤ (j2 : Int) + 1 := by omega
          rw [if_pos h3, if_pos h3']
        · have h3' : ¬ (40 < (j2 : Int) + 1 ∨ (r : Int) ≤ (j2 : Int) + 1) := by omega
          rw [if_neg h3, if_neg h3']
  by_cases h0 : boE z ((140 - 2 - r : Nat) : Int) j2 sz r = 0
  · rw [h0] at hE
    obtain ⟨c1, c2⟩ := b.commit (by omega) hE (by simp)
    rw [c1] at hc
    rw [h0, if_pos rfl]
    refine hc.mono ?_
    rintro en W' ⟨h1, h2⟩
    exact ⟨h1, _, _, _, _, _, h2, c2⟩
  · have hb := b.bad (l := zl j2 ++ [⟨z, zer sz⟩]) (by rw [hE]; exact h0)
    rw [hb, hE] at hc
    rw [if_neg h0]
    refine hc.mono ?_
    rintro en W' ⟨h1, h2⟩
    exact ⟨h1, _, _, _, _, _, h2, b⟩
theorem zl_set (j : Nat) (x : Pu) : (zl (j + 1)).set j x = zl j ++ [x] := by
  have h : (zl j).length = j := by unfold zl; rw [List.length_map, List.length_range]
  rw [zl_snoc, List.set_append_right _ _ (by omega), h, Nat.sub_self]
  rfl
theorem infoPu2 : (Try.prog.info? 46).map (·.size) = some 2 := by kernel_rfl
theorem puC_one (x : PuR) : ∀ v ∈ (puC x).toArray.toList, v.oneCell' = true := by
  intro u hu
  simp only [puC, List.mem_cons, List.not_mem_nil, or_false] at hu
  rcases hu with rfl | rfl <;> rfl
theorem PRow.setI {w : World} {base n c g k : Nat} {l : List PuR} {y : PuR} (h : PRow w base (.slice (some ⟨g, 0, none⟩) n c) l) (hy : l[k]? = some y) (z : Int) (hz : -9223372036854775808 ≤ z ∧ z ≤ 9223372036854775807) :
    PRow (w.setCell ⟨g, k * 2, none⟩ (.int .i64 z)) base (.slice (some ⟨g, 0, none⟩) n c) (l.set k { y with i := z }) := by
  have hk := (List.getElem?_eq_some_iff.1 hy).1
  obtain ⟨g', cur, e, hb, hg, hs, ht, hnc, hcs⟩ := h.row (by rw [h.len]; omega)
  simp only [Option.some.injEq, Addr.mk.injEq, and_true] at e
  subst e
  obtain ⟨d1, d2, d3⟩ := h.dat y (List.mem_of_getElem? hy)
  have hset := h.set (y := { y with i := z }) hk cur hg d1 d2 (fun a ha hh => d3 a ha (by show some g = _; rw [hh])) hz
  have hc := heap_setCell_same w g (k * 2) cur 46 (.int .i64 z) hg
  have hr := setRow_heap w g cur (cur.toList.take (k * 2) ++ puC { y with i := z } ++ cur.toList.drop (k * 2 + 2)).toArray 46 _ hg
  obtain ⟨f1, f2⟩ := flat_at l k y hy
  have he : cur.setIfInBounds (k * 2) (.int .i64 z) = (cur.toList.take (k * 2) ++ puC { y with i := z } ++ cur.toList.drop (k * 2 + 2)).toArray := by
    apply Array.toList_inj.1
    rw [Array.toList_setIfInBounds]
    show cur.toList.set (k * 2) (.int .i64 z) = cur.toList.take (k * 2) ++ puC { y with i := z } ++ cur.toList.drop (k * 2 + 2)
    apply List.ext_getElem?
    intro j
    have a2 := cur_at ht f2
    have a3 : cur.toList[k * 2 + 1]? = some (.slice y.A y.q y.c) := by rw [Array.getElem?_toList]; exact a2
    have hcl : cur.toList.length = cur.size := Array.length_toList
    have htl : (cur.toList.take (k * 2)).length = k * 2 := by rw [List.length_take]; omega
    have hpl : (puC { y with i := z }).length = 2 := rfl
    rw [List.getElem?_set]
    by_cases h1 : k * 2 = j
    · rw [if_pos h1, if_pos (by omega), List.getElem?_append_left (by rw [List.length_append]; omega), List.getElem?_append_right (by omega), htl, ← h1, Nat.sub_self]
      rfl
    · rw [if_neg h1]
      by_cases h2 : j < k * 2
      · rw [List.append_assoc, List.getElem?_append_left (by omega), List.getElem?_take, if_pos h2]
      · by_cases h3 : j = k * 2 + 1
        · rw [List.getElem?_append_left (by rw [List.length_append]; omega), List.getElem?_append_right (by omega), htl, h3, a3, show k * 2 + 1 - k * 2 = 1 by omega]
          rfl
        · rw [List.getElem?_append_right (by rw [List.length_append]; omega), List.length_append, htl, hpl, List.getElem?_drop, show k * 2 + 2 + (j - (k * 2 + 2)) = j by omega]
  rw [he] at hc
  have h1 : Only (fun b => b = g) w (w.setCell ⟨g, k * 2, none⟩ (.int .i64 z)) := (Only.refl _ w).setCell (p := ⟨g, k * 2, none⟩) (S := fun b => b = g) rfl _
  have h2 : Only (fun b => b = g) w (w.setRow g (cur.toList.take (k * 2) ++ puC { y with i := z } ++ cur.toList.drop (k * 2 + 2)).toArray) := (Only.refl _ w).setRow (S := fun b => b = g) rfl _
  have hsz1 : (w.setCell ⟨g, k * 2, none⟩ (.int .i64 z)).heap.size = w.heap.size := by simp
  have hsz2 : (w.setRow g (cur.toList.take (k * 2) ++ puC { y with i := z } ++ cur.toList.drop (k * 2 + 2)).toArray).heap.size = w.heap.size := by simp
  refine hset.below ⟨h1.os.trans h2.os.symm, h1.tape.trans h2.tape.symm, h1.output.trans h2.output.symm, by rw [hsz1, hsz2]; exact Nat.le_refl _, fun b hb => ?_⟩
  by_cases hbg : b = g
  · subst hbg
    rw [hc, hr]
  · rw [hsz2] at hb
    rw [h1.block b hb hbg, h2.block b hb hbg]
set_option maxRecDepth 100000 in
set_option maxHeartbeats 4000000 in
theorem bounds_law (Z : DK) (a0 a1 a2 a3 : Int) (tw : Bool) (w : World) (h0 : -9223372036854775808 ≤ a0 ∧ a0 ≤ 9223372036854775807) (h1 : -9223372036854775808 ≤ a1 ∧ a1 ≤ 9223372036854775807) (h2 : -9223372036854775808 ≤ a2 ∧ a2 ≤ 9223372036854775807) (h3 : -9223372036854775808 ≤ a3 ∧ a3 ≤ 9223372036854775807) :
    Calls Try.prog 9 #[.int .i64 a0, .int .i64 a1, .int .i64 a2, .int .i64 a3, .bool tw] w (RetTrue w) := by
  have CB := Lib.hid (fun W => begun6_any Z W)
  have CP0 := Lib.hid (fun W => place_any a0 50 W h0 (by omega) (by omega))
  have CP1 := Lib.hid (fun W => place_any a1 45 W h1 (by omega) (by omega))
  have CP3 := Lib.hid (fun W => place_any a3 5 W h3 (by omega) (by omega))
  have CN : Hid (∀ W, Below w.heap.size w W → Calls Try.prog 16 #[.int .i64 140] W fun e W' => ∃ g, e = .returned (.pointer (some ⟨g, 0, none⟩)) ∧ OnD Z w W' g 140 (newM 140)) := Lib.hid (fun W hb => new_up Z w W hb 140 (by omega) (by omega))
  obtain ⟨q0, c0⟩ := QP.new 140 (by omega) (by omega)
  obtain ⟨M0, hM0⟩ : ∃ M0, newM 140 = M0 := ⟨_, rfl⟩
  rw [hM0] at q0 c0 CN
  have hm0 : M0.wrote = 0 := by rw [← hM0]; rfl
  obtain ⟨P1, hP1⟩ : ∃ P1 : Nat → Pt, ∀ r, fmtP M0 140 r = P1 r := ⟨fun r => _, fun _ => rfl⟩
  have DS1 : Hid (∀ r : Nat, 8 ≤ r → r ≤ 57 → DS (P1 r) 140 141 1 r (fun _ => zsec)) := Lib.hid (fun r g1 g2 => by rw [← hP1]; exact DS.fmt q0 (by omega) r g1 (by omega) (by omega))
  have CF : Hid (∀ (r : Nat) gd W, 8 ≤ r → r ≤ 57 → OnD Z w W gd 140 M0 → Calls Try.prog 17 #[.pointer (some ⟨gd, 0, none⟩), .int .i64 (r : Int)] W fun en W' => (∃ e : Int, en = .returned (.int .i64 e)) ∧ OnD Z w W' gd 140 (P1 r).m) := Lib.hid (fun r gd W g1 g2 a => (format_up a r q0.ok (by rw [hm0]; omega) g1 (by omega) (by omega)).mono (by rintro en W' ⟨h, h'⟩; rw [hP1] at h'; exact ⟨⟨_, h⟩, h'⟩))
  have CO : Hid (∀ (r : Nat) gd W, 8 ≤ r → r ≤ 57 → OnD Z w W gd 140 (P1 r).m → Calls Try.prog 18 #[.pointer (some ⟨gd, 0, none⟩)] W (OpenUp Z w gd 140 (P1 r) 282 1 r (fun _ => zsec))) := Lib.hid (fun r gd W g1 g2 a => (open_up a (DS1.out r g1 g2) (by omega)).mono (by
    rintro en W' ⟨g, gp, p', j', h1, h2, h3, h4, _⟩
    exact ⟨g, gp, p', j', h1, h2, h3, h4⟩))
  clear hM0 hm0 hP1
  obtain ⟨z5, hz5⟩ : ∃ z5, zer 512 = z5 := ⟨_, rfl⟩
  have HZ5 := Lib.hid hz5
  have A2 := Lib.hid h2
  clear hz5
  clear q0 c0 h0 h1 h2 h3
  go_enter Try.func9, Try.ntmps9
  go_upto_region 5 with (first
    | (go_at_call 14; refine (CB.out _).mono ?_; rintro e w1 ⟨rfl, b1⟩
       have B1 := Lib.hid b1
       clear b1)
    | (go_at_call_of 15 (Value.int .i64 50); refine (CP0.out _).mono ?_; rintro e w2 ⟨⟨r0, hr0, rfl⟩, rfl⟩
       obtain ⟨r, hr⟩ : ∃ r, r = 8 + r0 := ⟨_, rfl⟩
       have e1 : IntKind.i64.wrap (8 + (r0 : Int)) = (r : Int) := by rw [IntKind.wrap_i64]; omega)
    | (go_at_call_of 15 (Value.int .i64 45); refine (CP1.out _).mono ?_; rintro e w2 ⟨⟨j2, hj2, rfl⟩, rfl⟩
       obtain ⟨N, hN⟩ : ∃ N, N = j2 + 1 := ⟨_, rfl⟩
       have e2 : IntKind.i64.wrap (1 + (j2 : Int)) = (N : Int) := by rw [IntKind.wrap_i64]; omega)
    | (go_at_call_of 15 (Value.int .i64 5); refine (CP3.out _).mono ?_; rintro e w2 ⟨⟨j3, hj3, rfl⟩, rfl⟩
       obtain ⟨sz, hsz⟩ : ∃ sz, sz = 510 + j3 := ⟨_, rfl⟩
       have e3 : IntKind.i64.wrap (510 + (j3 : Int)) = (sz : Int) := by rw [IntKind.wrap_i64]; omega))
  clear e1 e2 e3
  have er : (8 : Int) + (r0 : Int) = (r : Int) := by omega
  have eN : (j2 : Int) + 1 = (N : Int) := by omega
  have es : (510 : Int) + (j3 : Int) = (sz : Int) := by omega
  rw [er, eN, es]
  clear er eN es
  have HR : Hid (8 ≤ r ∧ r ≤ 57) := Lib.hid (by omega)
  have HN : Hid (N = j2 + 1 ∧ j2 < 45) := Lib.hid ⟨hN, hj2⟩
  have HZ : Hid (510 ≤ sz ∧ sz ≤ 514) := Lib.hid (by omega)
  clear hr hr0 hN hj2 hsz hj3
  go_upto_region 12 with (first
    | (go_at_call 16; refine (CN.out _ B1.out).mono ?_; rintro e w3 ⟨gd, rfl, a3⟩
       have A3 := Lib.hid a3
       clear a3)
    | (go_at_call 17; refine (CF.out r _ _ HR.out.1 HR.out.2 A3.out).mono ?_; rintro e w4 ⟨⟨ef, rfl⟩, a4⟩
       have A4 := Lib.hid a4
       clear a4)
    | (go_at_call 18; refine (CO.out r _ _ HR.out.1 HR.out.2 A4.out).mono ?_; rintro e w5 ⟨g, gp, p, j, rfl, a5, b5, _⟩
       have A5 := Lib.hid a5
       have B5 := Lib.hid b5
       clear a5 b5))
  go_loopw [14, 15] (fun v i wr => ∃ (k : Nat) (A' : Option Addr) (n' c' : Nat) (l : List PuR), k ≤ N ∧ i = .int .i64 (k : Int) ∧ v = .slice A' n' c' ∧ n' = k ∧ PRow wr w5.heap.size (.slice A' n' c') l ∧ puL l = zl k ∧ Below w5.heap.size w5 wr ∧ ∀ x ∈ l, ∀ b, x.A = some b → b.block < wr.heap.size) (fun _ i _ => N - (Go.RowKit.intOf i).toNat)
  case atStart => exact ⟨0, none, 0, 0, [], Nat.zero_le _, rfl, rfl, rfl, PRow.nil _ _, rfl, Below.refl _ _, fun x hx => absurd hx (by simp)⟩
  case round =>
    obtain ⟨k, A', n', c', l, hk, rfl, rfl, hnk, qp, ql, qb, qx⟩ := hrel
    have hnk' := hnk.symm
    subst hnk'
    have QP' := Lib.hid qp
    have QL := Lib.hid ql
    have QB := Lib.hid qb
    have QX := Lib.hid qx
    clear qp ql qb qx
    have hN45 : N ≤ 45 := by have := HN.out; omega
    by_cases hlt : k < N
    · go_wp2_with (first
        | (at_make; refine wp_mk _ rfl _ _ rfl Try.underlying39 infoU8 wr.heap.size _ _ _ _ 512 rfl rfl rfl rfl (by omega) (Nat.le_refl _) ?_; intro w6 own6 b6
           have OW6 := Lib.hid own6
           have B6 := Lib.hid b6
           have b67 := b6.trans (((Below.refl w6.heap.size w6).alloc (Nat.le_refl _) (.cells #[.int .i64 (k : Int), .slice (some ⟨wr.heap.size, 0, none⟩) 512 512] 46)).mono b6.size)
           have N7 := Lib.hid (QP'.out.below b67)
           have own6' : HasB w6 w6.heap.size (some ⟨wr.heap.size, 0, none⟩) 512 z5 := by have := own6.x.has; rwa [show List.replicate 512 (0 : UInt8) = z5 from HZ5.out] at this
           have HD7 := Lib.hid (own6'.on ((Below.refl w6.heap.size w6).alloc (Nat.le_refl _) (.cells #[.int .i64 (k : Int), .slice (some ⟨wr.heap.size, 0, none⟩) 512 512] 46)))
           have LT7 : Hid (wr.heap.size < (w6.alloc (.cells #[.int .i64 (k : Int), .slice (some ⟨wr.heap.size, 0, none⟩) 512 512] 46)).heap.size) := Lib.hid (by
             obtain ⟨g', o', e', hg', _⟩ := own6'.2 (by omega)
             simp only [Option.some.injEq, Addr.mk.injEq, and_true] at e'
             simp
             omega)
           have HF7 : Hid (∀ b : Addr, (some ⟨wr.heap.size, 0, none⟩ : Option Addr) = some b → (Value.slice A' k c').ownBlock ≠ some b.block ∧ b.block < (w6.alloc (.cells #[.int .i64 (k : Int), .slice (some ⟨wr.heap.size, 0, none⟩) 512 512] 46)).heap.size) := Lib.hid (fun b hb => by
             injection hb with hb
             subst hb
             exact ⟨fun hh => by have := (World.ownsRow.lt QP'.out.own _ hh).2; dsimp only at this; omega, LT7.out⟩)
           have B67 := Lib.hid b67
           clear own6 b6 own6' b67)
        | (at_builtin; refine wp_app_pu rfl (.tmp 46) (.tmp 50) rfl w5.heap.size _ l rfl N7.out w6.heap.size 1 ⟨(k : Int), some ⟨wr.heap.size, 0, none⟩, 512, 512, z5⟩ rfl (heap_alloc_new _ _) HD7.out (Nat.le_refl _) HF7.out ⟨by show (-9223372036854775808 : Int) ≤ (k : Int); omega, by have := HN.out; show (k : Int) ≤ 9223372036854775807; omega⟩ (fun x hx b hb => Nat.lt_of_lt_of_le (QX.out x hx b hb) B67.out.size) (by have := QP'.out.len; have := HN.out; omega) (Nat.le_trans QB.out.size B67.out.size) ?_
           intro A7 n7 c7 w7 pr7 b7 x7
           have PR7 := Lib.hid pr7
           have B7 := Lib.hid ((QB.out.trans (B67.out.mono QB.out.size)).trans b7)
           have X7 := Lib.hid x7
           clear pr7 b7 x7))
      go_roundw
      case rel =>
        refine ⟨k + 1, A7, n7, c7, _, by omega, by go_num, rfl, ?_, PR7.out, ?_, B7.out, X7.out⟩
        · have := PR7.out.len
          rw [this, List.length_append, ← QP'.out.len]
          rfl
        · rw [zl_snoc, ← QL.out, HZ5.out]
          unfold puL
          rw [List.map_append]
          rfl
      case measure => simp [Go.RowKit.intOf]; omega
    · obtain rfl : k = N := by omega
      obtain ⟨g14, cur, rfl, hgb, hgc, hgs, _, hnc, _⟩ := QP'.out.row (by have := HN.out; omega)
      have hlen := QP'.out.len
      have hj1 : (k : Int) - 1 = (j2 : Int) := by have := HN.out; omega
      have hj2 : j2 < 45 := HN.out.2
      have hj3 : j2 < k := by have := HN.out; omega
      have hj4 : (j2 : Int) < (k : Int) := by omega
      have HZ' := HZ.out
      obtain ⟨zs, hzs⟩ : ∃ zs, zer sz = zs := ⟨_, rfl⟩
      have HZS := Lib.hid hzs
      have G14 := Lib.hid hgc
      have GB := Lib.hid hgb
      have HLEN := Lib.hid hlen
      have HGS := Lib.hid hgs
      clear hzs hgc hgb hlen hgs
      go_upto_region 16 with (first
        | (at_make; refine wp_mk _ rfl _ _ rfl Try.underlying39 infoU8 wr.heap.size _ _ _ _ sz rfl rfl rfl rfl (by omega) (Nat.le_refl _) ?_; intro w6 own6 b6
           have hown : HasB w6 w6.heap.size (some ⟨wr.heap.size, 0, none⟩) sz zs := by have := own6.x.has; rwa [show List.replicate sz (0 : UInt8) = zs from HZS.out] at this
           have OH6 := Lib.hid hown
           have B6 := Lib.hid b6
           have P6 := Lib.hid (QP'.out.below b6)
           have G6 := Lib.hid ((b6.block g14 (Array.getElem?_eq_some_iff.1 G14.out).1).trans G14.out)
           clear own6 b6 hown)
        | (refine wpList_store_partL rfl 46 (.tmp 59) (.tmp 58) rfl g14 (j2 * 2) (puC ⟨a2, some ⟨wr.heap.size, 0, none⟩, sz, sz, zs⟩).toArray rfl rfl 46 cur G6.out infoPu2 (by have := HGS.out; have := HLEN.out; show j2 * 2 + 2 ≤ cur.size; omega) (puC_one _) ?_))
      have HD8 : j2 < l.length := by have := HLEN.out; omega
      have P8 := P6.out.set (y := ⟨a2, some ⟨wr.heap.size, 0, none⟩, sz, sz, zs⟩) HD8 cur G6.out OH6.out (Nat.le_refl _) (fun b hb hh => by
        injection hb with hb
        subst hb
        have := (World.ownsRow.lt QP'.out.own g14 rfl).2
        dsimp only at hh
        omega) A2.out
      have b8 := below_setRow (QB.out.trans (B6.out.mono QB.out.size)) GB.out (cur.toList.take (j2 * 2) ++ puC ⟨a2, some ⟨wr.heap.size, 0, none⟩, sz, sz, zs⟩ ++ cur.toList.drop (j2 * 2 + 2)).toArray
      obtain ⟨w8, hw8⟩ : ∃ w8, w6.setRow g14 (cur.toList.take (j2 * 2) ++ puC ⟨a2, some ⟨wr.heap.size, 0, none⟩, sz, sz, zs⟩ ++ cur.toList.drop (j2 * 2 + (puC ⟨a2, some ⟨wr.heap.size, 0, none⟩, sz, sz, zs⟩).toArray.size)).toArray = w8 := ⟨_, rfl⟩
      rw [hw8]
      have hw8' : w6.setRow g14 (cur.toList.take (j2 * 2) ++ puC ⟨a2, some ⟨wr.heap.size, 0, none⟩, sz, sz, zs⟩ ++ cur.toList.drop (j2 * 2 + 2)).toArray = w8 := hw8
      rw [hw8'] at P8 b8
      have P8' := Lib.hid P8
      have B8 := Lib.hid b8
      have LJ : Hid ((l.set j2 ⟨a2, some ⟨wr.heap.size, 0, none⟩, sz, sz, zs⟩)[j2]? = some ⟨a2, some ⟨wr.heap.size, 0, none⟩, sz, sz, zs⟩) := Lib.hid (List.getElem?_set_self HD8)
      have c80 := (P8.cells LJ.out).1
      have f80 : w8.frozen? ⟨g14, j2 * 2, none⟩ = false := by
        obtain ⟨g', cur', e', _, hg', _⟩ := P8.row (by omega)
        simp only [Option.some.injEq, Addr.mk.injEq, and_true] at e'
        subst e'
        exact frozen_of_row w8 _ _ _ _ hg'
      have PL : Hid (∀ z : Int, puL (l.set j2 ⟨z, some ⟨wr.heap.size, 0, none⟩, sz, sz, zs⟩) = zl j2 ++ [⟨z, zer sz⟩]) := Lib.hid (fun z => by
        unfold puL
        rw [List.map_set]
        have := QL.out
        unfold puL at this
        rw [this, HN.out.1, zl_set, HZS.out])
      have CM : Hid (∀ W (z : Int), Below w5.heap.size w5 W → PRow W w5.heap.size (.slice (some ⟨g14, 0, none⟩) k c') (l.set j2 ⟨z, some ⟨wr.heap.size, 0, none⟩, sz, sz, zs⟩) → -9223372036854775808 ≤ z ∧ z ≤ 9223372036854775807 → Calls Try.prog 24 #[.pointer (some ⟨g, 0, none⟩), .slice (some ⟨g14, 0, none⟩) k c'] W fun en W' => en = .returned (.int .i64 (boE z ((140 - 2 - r : Nat) : Int) j2 sz r)) ∧ ∃ p' j' u' V' H', UpJ Z w W' g gd gp 140 p' j' ∧ SJ p' 140 V' j' (if boE z ((140 - 2 - r : Nat) : Int) j2 sz r = 0 then 2 else 1) u' r H') := Lib.hid (fun W z hb hp hz => by
        have hpu := hp.puts
        rw [PL.out z] at hpu
        exact bo_commit (A5.out.below hb) B5.out hj2 (by omega) hz HR.out.2 _ k c' HN.out.1 hpu)
      have CH : Hid (∀ W, Below w5.heap.size w5 W → Calls Try.prog 33 #[.pointer (some ⟨g, 0, none⟩)] W (RetV2 W (.int .i64 ((140 - 2 - r : Nat) : Int)))) := Lib.hid (fun W hb => homes_up (A5.out.below hb) B5.out (by omega))
      obtain ⟨hm, hhm⟩ : ∃ hm : Nat, 140 - 2 - r = hm := ⟨_, rfl⟩
      rw [hhm] at CM CH
      clear hw8 hw8' P8 b8 hhm
      cases tw with
      | true =>
        go_upto_region 18 with fail
        have P9' := P8'.out.setI LJ.out 0 ⟨by decide, by decide⟩
        rw [List.set_set] at P9'
        have b9' := B8.out.setCell (p := ⟨g14, j2 * 2, none⟩) GB.out (.int .i64 0)
        obtain ⟨w9, hw9⟩ : ∃ w9, w8.setCell ⟨g14, j2 * 2, none⟩ (.int .i64 0) = w9 := ⟨_, rfl⟩
        rw [hw9] at P9' b9' ⊢
        obtain ⟨z, hz⟩ : ∃ z : Int, z = 0 := ⟨_, rfl⟩
        have P9 : Hid (PRow w9 w5.heap.size (.slice (some ⟨g14, 0, none⟩) k c') (l.set j2 ⟨z, some ⟨wr.heap.size, 0, none⟩, sz, sz, zs⟩)) := Lib.hid (by rw [hz]; exact P9')
        have B9 := Lib.hid b9'
        have ZB : Hid (-9223372036854775808 ≤ z ∧ z ≤ 9223372036854775807) := Lib.hid (by rw [hz]; decide)
        clear hw9 P9' b9' c80 f80 hz
        have LJ9 : (l.set j2 ⟨z, some ⟨wr.heap.size, 0, none⟩, sz, sz, zs⟩)[j2]? = some ⟨z, some ⟨wr.heap.size, 0, none⟩, sz, sz, zs⟩ := List.getElem?_set_self HD8
        have C9 : Hid (w9.cell? ⟨g14, j2 * 2, none⟩ = some (.int .i64 z)) := Lib.hid (P9.out.cells LJ9).1
        have hwj : IntKind.i64.wrap (j2 : Int) = (j2 : Int) := by rw [IntKind.wrap_i64]; omega
        have hj0 : (0 : Int) ≤ (j2 : Int) := by omega
        have c9 := C9.out
        have G9 : Hid (g14 < w9.heap.size) := Lib.hid (by obtain ⟨g', cur', e', _, hg', _⟩ := P9.out.row (by omega); simp only [Option.some.injEq, Addr.mk.injEq, and_true] at e'; subst e'; exact (Array.getElem?_eq_some_iff.1 hg').1)
        have hzb := ZB.out
        have hr57 := HR.out
        have hkk := HN.out
        have hj6 : j2 < 46 := by omega
        clear LJ9
        by_cases hz0 : z < 0
        · have hd0 : decide (z < 0) = true := decide_eq_true hz0
          have BE : Hid (boE z hm j2 sz r = 1) := Lib.hid (by unfold boE; rw [if_pos (.inl hz0)])
          clear hkk hr57
          go_quiet (fail)
          have DOWN : Hid (Below w9.heap.size w9 (w9.drewN nq)) := Lib.hid ⟨rfl, rfl, rfl, Nat.le_refl _, fun _ _ => rfl⟩
          have CMz : Hid (∀ W, Below w5.heap.size w5 W → PRow W w5.heap.size (.slice (some ⟨g14, 0, none⟩) k c') (l.set j2 ⟨z, some ⟨wr.heap.size, 0, none⟩, sz, sz, zs⟩) → Calls Try.prog 24 #[.pointer (some ⟨g, 0, none⟩), .slice (some ⟨g14, 0, none⟩) k c'] W fun en W' => en = .returned (.int .i64 1) ∧ ∃ p' j' u' V' H', UpJ Z w W' g gd gp 140 p' j' ∧ SJ p' 140 V' j' 1 u' r H') := Lib.hid (fun W hb hp => by
            have q := CM.out W z hb hp ZB.out
            rw [BE.out, if_neg (by decide)] at q
            exact q)
          go_wp2_with (first
            | (go_at_call 24; refine (CMz.out _ (B9.out.trans (DOWN.out.mono B9.out.size)) (P9.out.below DOWN.out)).mono ?_; rintro e wa ⟨rfl, p', j', u', V', H', ua, sa⟩
               have UA := Lib.hid ua
               have SA := Lib.hid sa
               clear ua sa)
            | (go_at_call 29; refine (turn_up UA.out SA.out).mono ?_; rintro e wb ⟨rfl, rfl⟩))
          go_ret
          exact ⟨rfl, UA.out.bel⟩
        · have hd0 : decide (z < 0) = false := decide_eq_false hz0
          by_cases hb1 : (hm : Int) ≤ z
          · have hd1 : decide ((hm : Int) ≤ z) = true := decide_eq_true hb1
            have BE : Hid (boE z hm j2 sz r = 1) := Lib.hid (by unfold boE; rw [if_pos (.inr (.inl hb1))])
            clear hkk hr57
            refine wp_region_held_drew (S := fun W => W.cell? ⟨g14, j2 * 2, none⟩ = some (.int .i64 z)) (by kernel_rfl) C9.out (fun hHeld => ?_)
            refine wpAnyH_take (i := 0) (v := ?v0z1x) (by simp only [List.getElem?_toArray, List.getElem?_cons_succ, List.getElem?_cons_zero]; rfl) (by kernel_rfl) (by kernel_rfl) (by kernel_rfl) (by exact fun _ _ _ h => h) (Or.inl ⟨by rfl, ?h0z1x⟩) (by assumption) ?_
            case h0z1x => (intro W hSw; (try dsimp only at hSw); go_simp; try with_reducible rfl)
            try simp only [Act.put, List.setIfInBounds_toArray, List.set_cons_zero, List.set_cons_succ]
            refine wpAnyH_take (i := 1) (v := ?v1z1x) (by simp only [List.getElem?_toArray, List.getElem?_cons_succ, List.getElem?_cons_zero]; rfl) (by kernel_rfl) (by kernel_rfl) (by kernel_rfl) (by exact fun _ _ _ h => h) (Or.inl ⟨by rfl, ?h1z1x⟩) (by assumption) ?_
            case h1z1x => (intro W hSw; (try dsimp only at hSw); go_simp; try with_reducible rfl)
            try simp only [Act.put, List.setIfInBounds_toArray, List.set_cons_zero, List.set_cons_succ]
            refine wpAnyH_take (i := 2) (v := ?v2z1x) (by simp only [List.getElem?_toArray, List.getElem?_cons_succ, List.getElem?_cons_zero]; rfl) (by kernel_rfl) (by kernel_rfl) (by kernel_rfl) (by exact fun _ _ _ h => h) (Or.inl ⟨by rfl, ?h2z1x⟩) (by assumption) ?_
            case h2z1x => (intro W hSw; (try dsimp only at hSw); go_simp; try with_reducible rfl)
            try simp only [Act.put, List.setIfInBounds_toArray, List.set_cons_zero, List.set_cons_succ]
            refine wpAnyH_take (i := 3) (v := ?v3z1x) (by simp only [List.getElem?_toArray, List.getElem?_cons_succ, List.getElem?_cons_zero]; rfl) (by kernel_rfl) (by kernel_rfl) (by kernel_rfl) (by exact fun _ _ _ h => h) (Or.inl ⟨by rfl, ?h3z1x⟩) (by assumption) ?_
            case h3z1x => (intro W hSw; (try dsimp only at hSw); go_simp; try with_reducible rfl)
            try simp only [Act.put, List.setIfInBounds_toArray, List.set_cons_zero, List.set_cons_succ]
            refine wpAnyH_take (i := 4) (v := ?v4z1x) (by simp only [List.getElem?_toArray, List.getElem?_cons_succ, List.getElem?_cons_zero]; rfl) (by kernel_rfl) (by kernel_rfl) (by kernel_rfl) (by exact fun _ _ _ h => h) (Or.inl ⟨by rfl, ?h4z1x⟩) (by assumption) ?_
            case h4z1x => (intro W hSw; (try dsimp only at hSw); go_simp; try with_reducible rfl)
            try simp only [Act.put, List.setIfInBounds_toArray, List.set_cons_zero, List.set_cons_succ]
            refine wpAnyH_take (i := 5) (by simp only [List.getElem?_toArray, List.getElem?_cons_succ, List.getElem?_cons_zero]; rfl) (by kernel_rfl) (by kernel_rfl) (by kernel_rfl) (by exact fun _ _ _ h => h) (yieldsIf_loadG (by rfl) 3 (.tmp 70) rfl ⟨g14, j2 * 2, none⟩ rfl _ (fun W hW => load_intc hW)) (by assumption) ?_
            try simp only [Act.put, List.setIfInBounds_toArray, List.set_cons_zero, List.set_cons_succ]
            refine wpAnyH_take (i := 6) (v := ?v6z1x) (by simp only [List.getElem?_toArray, List.getElem?_cons_succ, List.getElem?_cons_zero]; rfl) (by kernel_rfl) (by kernel_rfl) (by kernel_rfl) (by exact fun _ _ _ h => h) (Or.inl ⟨by rfl, ?h6z1x⟩) (by assumption) ?_
            case h6z1x => (intro W hSw; (try dsimp only at hSw); go_simp; try with_reducible rfl)
            try simp only [Act.put, List.setIfInBounds_toArray, List.set_cons_zero, List.set_cons_succ]
            refine wpAnyH_take (i := 7) (v := ?v7z1x) (by simp only [List.getElem?_toArray, List.getElem?_cons_succ, List.getElem?_cons_zero]; rfl) (by kernel_rfl) (by kernel_rfl) (by kernel_rfl) (by exact fun _ _ _ h => h) (Or.inl ⟨by rfl, ?h7z1x⟩) (by assumption) ?_
            case h7z1x => (intro W hSw; (try dsimp only at hSw); go_simp; try with_reducible rfl)
            try simp only [Act.put, List.setIfInBounds_toArray, List.set_cons_zero, List.set_cons_succ]
            refine wpAnyH_take (i := 8) (v := ?v8z1x) (by simp only [List.getElem?_toArray, List.getElem?_cons_succ, List.getElem?_cons_zero]; rfl) (by kernel_rfl) (by kernel_rfl) (by kernel_rfl) (by exact fun _ _ _ h => h) (Or.inl ⟨by rfl, ?h8z1x⟩) (by assumption) ?_
            case h8z1x => (intro W hSw; (try dsimp only at hSw); go_simp; try with_reducible rfl)
            try simp only [Act.put, List.setIfInBounds_toArray, List.set_cons_zero, List.set_cons_succ]
            refine wpAnyH_take (i := 9) (v := ?v9z1x) (by simp only [List.getElem?_toArray, List.getElem?_cons_succ, List.getElem?_cons_zero]; rfl) (by kernel_rfl) (by kernel_rfl) (by kernel_rfl) (by exact fun _ _ _ h => h) (Or.inl ⟨by rfl, ?h9z1x⟩) (by assumption) ?_
            case h9z1x => (intro W hSw; (try dsimp only at hSw); go_simp; try with_reducible rfl)
            try simp only [Act.put, List.setIfInBounds_toArray, List.set_cons_zero, List.set_cons_succ]
            refine wpAnyH_take (i := 10) (v := ?v10z1x) (by simp only [List.getElem?_toArray, List.getElem?_cons_succ, List.getElem?_cons_zero]; rfl) (by kernel_rfl) (by kernel_rfl) (by kernel_rfl) (by exact fun _ _ _ h => h) (Or.inl ⟨by rfl, ?h10z1x⟩) (by assumption) ?_
            case h10z1x => (intro W hSw; (try dsimp only at hSw); go_simp; try with_reducible rfl)
            try simp only [Act.put, List.setIfInBounds_toArray, List.set_cons_zero, List.set_cons_succ]
            refine wpAnyH_take (i := 11) (v := ?v11z1x) (by simp only [List.getElem?_toArray, List.getElem?_cons_succ, List.getElem?_cons_zero]; rfl) (by kernel_rfl) (by kernel_rfl) (by kernel_rfl) (by exact fun _ _ _ h => h) (Or.inl ⟨by rfl, ?h11z1x⟩) (by assumption) ?_
            case h11z1x => (intro W hSw; (try dsimp only at hSw); go_simp; try with_reducible rfl)
            try simp only [Act.put, List.setIfInBounds_toArray, List.set_cons_zero, List.set_cons_succ]
            refine wpAnyH_take (i := 12) (v := ?v12z1x) (by simp only [List.getElem?_toArray, List.getElem?_cons_succ, List.getElem?_cons_zero]; rfl) (by kernel_rfl) (by kernel_rfl) (by kernel_rfl) (by exact fun _ _ _ h => h) (Or.inl ⟨by rfl, ?h12z1x⟩) (by assumption) ?_
            case h12z1x => (intro W hSw; (try dsimp only at hSw); go_simp; try with_reducible rfl)
            try simp only [Act.put, List.setIfInBounds_toArray, List.set_cons_zero, List.set_cons_succ]
            refine wpAnyH_take (i := 13) (by simp only [List.getElem?_toArray, List.getElem?_cons_succ, List.getElem?_cons_zero]; rfl) (by kernel_rfl) (by kernel_rfl) (by kernel_rfl) (by exact fun _ _ _ h => h) (yieldsIf_loadG (by rfl) 3 (.tmp 78) rfl ⟨g14, j2 * 2, none⟩ rfl _ (fun W hW => load_intc hW)) (by assumption) ?_
            try simp only [Act.put, List.setIfInBounds_toArray, List.set_cons_zero, List.set_cons_succ]
            refine wpAnyH_take (i := 14) (v := ?v14z1x) (by simp only [List.getElem?_toArray, List.getElem?_cons_succ, List.getElem?_cons_zero]; rfl) (by kernel_rfl) (by kernel_rfl) (by kernel_rfl) (by exact fun _ _ _ h => h) (Or.inl ⟨by rfl, ?h14z1x⟩) (by assumption) ?_
            case h14z1x => (intro W hSw; (try dsimp only at hSw); go_simp; try with_reducible rfl)
            try simp only [Act.put, List.setIfInBounds_toArray, List.set_cons_zero, List.set_cons_succ]
            refine wpAnyH_ready (rs := [15]) (by kernel_rfl) (by simp) ?_
            refine AllReadyH.cons (by simp only [List.getElem?_toArray, List.getElem?_cons_succ, List.getElem?_cons_zero]; rfl) (fun K hK => ?_) AllReadyH.nil
            go_simp
            refine (CH.out _ B9.out.drew).mono ?_
            rintro en w10 ⟨rfl, b10⟩
            have DOWN : Hid (Below w9.heap.size w9 w10) := Lib.hid ((Below.refl _ w9).drew.trans b10)
            refine hK _ _ ((DOWN.out.cell G9.out).trans C9.out) (fun hH15 => ?_)
            clear hK K b10
            try simp only [Act.put, List.setIfInBounds_toArray, List.set_cons_zero, List.set_cons_succ]
            refine wpAnyH_take (i := 16) (v := ?v16z1x) (by simp only [List.getElem?_toArray, List.getElem?_cons_succ, List.getElem?_cons_zero]; rfl) (by kernel_rfl) (by kernel_rfl) (by kernel_rfl) (by exact fun _ _ _ h => h) (Or.inl ⟨by rfl, ?h16z1x⟩) (by assumption) ?_
            case h16z1x => (intro W hSw; (try dsimp only at hSw); go_simp; try with_reducible rfl)
            try simp only [Act.put, List.setIfInBounds_toArray, List.set_cons_zero, List.set_cons_succ]
            refine wpAnyH_take (i := 17) (v := ?v17z1x) (by simp only [List.getElem?_toArray, List.getElem?_cons_succ, List.getElem?_cons_zero]; rfl) (by kernel_rfl) (by kernel_rfl) (by kernel_rfl) (by exact fun _ _ _ h => h) (Or.inl ⟨by rfl, ?h17z1x⟩) (by assumption) ?_
            case h17z1x => (intro W hSw; (try dsimp only at hSw); go_simp; try with_reducible rfl)
            try simp only [Act.put, List.setIfInBounds_toArray, List.set_cons_zero, List.set_cons_succ]
            refine wpAnyH_take (i := 18) (v := ?v18z1x) (by simp only [List.getElem?_toArray, List.getElem?_cons_succ, List.getElem?_cons_zero]; rfl) (by kernel_rfl) (by kernel_rfl) (by kernel_rfl) (by exact fun _ _ _ h => h) (Or.inl ⟨by rfl, ?h18z1x⟩) (by assumption) ?_
            case h18z1x => (intro W hSw; (try dsimp only at hSw); go_simp; try with_reducible rfl)
            try simp only [Act.put, List.setIfInBounds_toArray, List.set_cons_zero, List.set_cons_succ]
            refine wpAnyH_take (i := 19) (v := undef) (by simp only [List.getElem?_toArray, List.getElem?_cons_succ, List.getElem?_cons_zero]; rfl) (by kernel_rfl) (by kernel_rfl) (by kernel_rfl) (by exact fun _ _ _ h => h) (Or.inr ⟨by rfl, rfl⟩) (by assumption) ?_
            try simp only [Act.put, List.setIfInBounds_toArray, List.set_cons_zero, List.set_cons_succ]
            refine wpAnyH_take (i := 20) (v := undef) (by simp only [List.getElem?_toArray, List.getElem?_cons_succ, List.getElem?_cons_zero]; rfl) (by kernel_rfl) (by kernel_rfl) (by kernel_rfl) (by exact fun _ _ _ h => h) (Or.inr ⟨by rfl, rfl⟩) (by assumption) ?_
            try simp only [Act.put, List.setIfInBounds_toArray, List.set_cons_zero, List.set_cons_succ]
            refine wpAnyH_take (i := 21) (v := undef) (by simp only [List.getElem?_toArray, List.getElem?_cons_succ, List.getElem?_cons_zero]; rfl) (by kernel_rfl) (by kernel_rfl) (by kernel_rfl) (by exact fun _ _ _ h => h) (Or.inr ⟨by rfl, rfl⟩) (by assumption) ?_
            try simp only [Act.put, List.setIfInBounds_toArray, List.set_cons_zero, List.set_cons_succ]
            refine wpAnyH_take (i := 22) (v := undef) (by simp only [List.getElem?_toArray, List.getElem?_cons_succ, List.getElem?_cons_zero]; rfl) (by kernel_rfl) (by kernel_rfl) (by kernel_rfl) (by exact fun _ _ _ h => h) (Or.inr ⟨by rfl, rfl⟩) (by assumption) ?_
            try simp only [Act.put, List.setIfInBounds_toArray, List.set_cons_zero, List.set_cons_succ]
            refine wpAnyH_take (i := 23) (v := undef) (by simp only [List.getElem?_toArray, List.getElem?_cons_succ, List.getElem?_cons_zero]; rfl) (by kernel_rfl) (by kernel_rfl) (by kernel_rfl) (by exact fun _ _ _ h => h) (Or.inr ⟨by rfl, rfl⟩) (by assumption) ?_
            try simp only [Act.put, List.setIfInBounds_toArray, List.set_cons_zero, List.set_cons_succ]
            refine wpAnyH_take (i := 24) (v := undef) (by simp only [List.getElem?_toArray, List.getElem?_cons_succ, List.getElem?_cons_zero]; rfl) (by kernel_rfl) (by kernel_rfl) (by kernel_rfl) (by exact fun _ _ _ h => h) (Or.inr ⟨by rfl, rfl⟩) (by assumption) ?_
            try simp only [Act.put, List.setIfInBounds_toArray, List.set_cons_zero, List.set_cons_succ]
            refine wpAnyH_take (i := 25) (v := undef) (by simp only [List.getElem?_toArray, List.getElem?_cons_succ, List.getElem?_cons_zero]; rfl) (by kernel_rfl) (by kernel_rfl) (by kernel_rfl) (by exact fun _ _ _ h => h) (Or.inr ⟨by rfl, rfl⟩) (by assumption) ?_
            try simp only [Act.put, List.setIfInBounds_toArray, List.set_cons_zero, List.set_cons_succ]
            refine wpAnyH_take (i := 26) (v := undef) (by simp only [List.getElem?_toArray, List.getElem?_cons_succ, List.getElem?_cons_zero]; rfl) (by kernel_rfl) (by kernel_rfl) (by kernel_rfl) (by exact fun _ _ _ h => h) (Or.inr ⟨by rfl, rfl⟩) (by assumption) ?_
            try simp only [Act.put, List.setIfInBounds_toArray, List.set_cons_zero, List.set_cons_succ]
            refine wpAnyH_take (i := 27) (v := undef) (by simp only [List.getElem?_toArray, List.getElem?_cons_succ, List.getElem?_cons_zero]; rfl) (by kernel_rfl) (by kernel_rfl) (by kernel_rfl) (by exact fun _ _ _ h => h) (Or.inr ⟨by rfl, rfl⟩) (by assumption) ?_
            try simp only [Act.put, List.setIfInBounds_toArray, List.set_cons_zero, List.set_cons_succ]
            refine wpAnyH_take (i := 28) (v := ?v28z1x) (by simp only [List.getElem?_toArray, List.getElem?_cons_succ, List.getElem?_cons_zero]; rfl) (by kernel_rfl) (by kernel_rfl) (by kernel_rfl) (by exact fun _ _ _ h => h) (Or.inl ⟨by rfl, ?h28z1x⟩) (by assumption) ?_
            case h28z1x => (intro W hSw; (try dsimp only at hSw); go_simp; try with_reducible rfl)
            try simp only [Act.put, List.setIfInBounds_toArray, List.set_cons_zero, List.set_cons_succ]
            refine wpAnyH_take (i := 29) (v := ?v29z1x) (by simp only [List.getElem?_toArray, List.getElem?_cons_succ, List.getElem?_cons_zero]; rfl) (by kernel_rfl) (by kernel_rfl) (by kernel_rfl) (by exact fun _ _ _ h => h) (Or.inl ⟨by rfl, ?h29z1x⟩) (by assumption) ?_
            case h29z1x => (intro W hSw; (try dsimp only at hSw); go_simp; try with_reducible rfl)
            try simp only [Act.put, List.setIfInBounds_toArray, List.set_cons_zero, List.set_cons_succ]
            refine wpAnyH_done (by kernel_rfl) ?_ _
            have CMz : Hid (∀ W, Below w5.heap.size w5 W → PRow W w5.heap.size (.slice (some ⟨g14, 0, none⟩) k c') (l.set j2 ⟨z, some ⟨wr.heap.size, 0, none⟩, sz, sz, zs⟩) → Calls Try.prog 24 #[.pointer (some ⟨g, 0, none⟩), .slice (some ⟨g14, 0, none⟩) k c'] W fun en W' => en = .returned (.int .i64 1) ∧ ∃ p' j' u' V' H', UpJ Z w W' g gd gp 140 p' j' ∧ SJ p' 140 V' j' 1 u' r H') := Lib.hid (fun W hb hp => by
              have q := CM.out W z hb hp ZB.out
              rw [BE.out, if_neg (by decide)] at q
              exact q)
            go_wp2_with (first
              | (go_at_call 24; refine (CMz.out _ (B9.out.trans (DOWN.out.mono B9.out.size)) (P9.out.below DOWN.out)).mono ?_; rintro e wa ⟨rfl, p', j', u', V', H', ua, sa⟩
                 have UA := Lib.hid ua
                 have SA := Lib.hid sa
                 clear ua sa)
              | (go_at_call 29; refine (turn_up UA.out SA.out).mono ?_; rintro e wb ⟨rfl, rfl⟩))
            go_ret
            exact ⟨rfl, UA.out.bel⟩
          · have hd1 : decide ((hm : Int) ≤ z) = false := decide_eq_false hb1
            by_cases hb2 : z < (j2 : Int)
            · have hd2 : decide (z < (j2 : Int)) = true := decide_eq_true hb2
              have BE : Hid (boE z hm j2 sz r = 1) := Lib.hid (by unfold boE; rw [if_pos (.inr (.inr hb2))])
              clear hkk hr57
              refine wp_region_held_drew (S := fun W => W.cell? ⟨g14, j2 * 2, none⟩ = some (.int .i64 z)) (by kernel_rfl) C9.out (fun hHeld => ?_)
              refine wpAnyH_take (i := 0) (v := ?v0z2x) (by simp only [List.getElem?_toArray, List.getElem?_cons_succ, List.getElem?_cons_zero]; rfl) (by kernel_rfl) (by kernel_rfl) (by kernel_rfl) (by exact fun _ _ _ h => h) (Or.inl ⟨by rfl, ?h0z2x⟩) (by assumption) ?_
              case h0z2x => (intro W hSw; (try dsimp only at hSw); go_simp; try with_reducible rfl)
              try simp only [Act.put, List.setIfInBounds_toArray, List.set_cons_zero, List.set_cons_succ]
              refine wpAnyH_take (i := 1) (v := ?v1z2x) (by simp only [List.getElem?_toArray, List.getElem?_cons_succ, List.getElem?_cons_zero]; rfl) (by kernel_rfl) (by kernel_rfl) (by kernel_rfl) (by exact fun _ _ _ h => h) (Or.inl ⟨by rfl, ?h1z2x⟩) (by assumption) ?_
              case h1z2x => (intro W hSw; (try dsimp only at hSw); go_simp; try with_reducible rfl)
              try simp only [Act.put, List.setIfInBounds_toArray, List.set_cons_zero, List.set_cons_succ]
              refine wpAnyH_take (i := 2) (v := ?v2z2x) (by simp only [List.getElem?_toArray, List.getElem?_cons_succ, List.getElem?_cons_zero]; rfl) (by kernel_rfl) (by kernel_rfl) (by kernel_rfl) (by exact fun _ _ _ h => h) (Or.inl ⟨by rfl, ?h2z2x⟩) (by assumption) ?_
              case h2z2x => (intro W hSw; (try dsimp only at hSw); go_simp; try with_reducible rfl)
              try simp only [Act.put, List.setIfInBounds_toArray, List.set_cons_zero, List.set_cons_succ]
              refine wpAnyH_take (i := 3) (v := ?v3z2x) (by simp only [List.getElem?_toArray, List.getElem?_cons_succ, List.getElem?_cons_zero]; rfl) (by kernel_rfl) (by kernel_rfl) (by kernel_rfl) (by exact fun _ _ _ h => h) (Or.inl ⟨by rfl, ?h3z2x⟩) (by assumption) ?_
              case h3z2x => (intro W hSw; (try dsimp only at hSw); go_simp; try with_reducible rfl)
              try simp only [Act.put, List.setIfInBounds_toArray, List.set_cons_zero, List.set_cons_succ]
              refine wpAnyH_take (i := 4) (v := ?v4z2x) (by simp only [List.getElem?_toArray, List.getElem?_cons_succ, List.getElem?_cons_zero]; rfl) (by kernel_rfl) (by kernel_rfl) (by kernel_rfl) (by exact fun _ _ _ h => h) (Or.inl ⟨by rfl, ?h4z2x⟩) (by assumption) ?_
              case h4z2x => (intro W hSw; (try dsimp only at hSw); go_simp; try with_reducible rfl)
              try simp only [Act.put, List.setIfInBounds_toArray, List.set_cons_zero, List.set_cons_succ]
              refine wpAnyH_take (i := 5) (by simp only [List.getElem?_toArray, List.getElem?_cons_succ, List.getElem?_cons_zero]; rfl) (by kernel_rfl) (by kernel_rfl) (by kernel_rfl) (by exact fun _ _ _ h => h) (yieldsIf_loadG (by rfl) 3 (.tmp 70) rfl ⟨g14, j2 * 2, none⟩ rfl _ (fun W hW => load_intc hW)) (by assumption) ?_
              try simp only [Act.put, List.setIfInBounds_toArray, List.set_cons_zero, List.set_cons_succ]
              refine wpAnyH_take (i := 6) (v := ?v6z2x) (by simp only [List.getElem?_toArray, List.getElem?_cons_succ, List.getElem?_cons_zero]; rfl) (by kernel_rfl) (by kernel_rfl) (by kernel_rfl) (by exact fun _ _ _ h => h) (Or.inl ⟨by rfl, ?h6z2x⟩) (by assumption) ?_
              case h6z2x => (intro W hSw; (try dsimp only at hSw); go_simp; try with_reducible rfl)
              try simp only [Act.put, List.setIfInBounds_toArray, List.set_cons_zero, List.set_cons_succ]
              refine wpAnyH_take (i := 7) (v := ?v7z2x) (by simp only [List.getElem?_toArray, List.getElem?_cons_succ, List.getElem?_cons_zero]; rfl) (by kernel_rfl) (by kernel_rfl) (by kernel_rfl) (by exact fun _ _ _ h => h) (Or.inl ⟨by rfl, ?h7z2x⟩) (by assumption) ?_
              case h7z2x => (intro W hSw; (try dsimp only at hSw); go_simp; try with_reducible rfl)
              try simp only [Act.put, List.setIfInBounds_toArray, List.set_cons_zero, List.set_cons_succ]
              refine wpAnyH_take (i := 8) (v := ?v8z2x) (by simp only [List.getElem?_toArray, List.getElem?_cons_succ, List.getElem?_cons_zero]; rfl) (by kernel_rfl) (by kernel_rfl) (by kernel_rfl) (by exact fun _ _ _ h => h) (Or.inl ⟨by rfl, ?h8z2x⟩) (by assumption) ?_
              case h8z2x => (intro W hSw; (try dsimp only at hSw); go_simp; try with_reducible rfl)
              try simp only [Act.put, List.setIfInBounds_toArray, List.set_cons_zero, List.set_cons_succ]
              refine wpAnyH_take (i := 9) (v := ?v9z2x) (by simp only [List.getElem?_toArray, List.getElem?_cons_succ, List.getElem?_cons_zero]; rfl) (by kernel_rfl) (by kernel_rfl) (by kernel_rfl) (by exact fun _ _ _ h => h) (Or.inl ⟨by rfl, ?h9z2x⟩) (by assumption) ?_
              case h9z2x => (intro W hSw; (try dsimp only at hSw); go_simp; try with_reducible rfl)
              try simp only [Act.put, List.setIfInBounds_toArray, List.set_cons_zero, List.set_cons_succ]
              refine wpAnyH_take (i := 10) (v := ?v10z2x) (by simp only [List.getElem?_toArray, List.getElem?_cons_succ, List.getElem?_cons_zero]; rfl) (by kernel_rfl) (by kernel_rfl) (by kernel_rfl) (by exact fun _ _ _ h => h) (Or.inl ⟨by rfl, ?h10z2x⟩) (by assumption) ?_
              case h10z2x => (intro W hSw; (try dsimp only at hSw); go_simp; try with_reducible rfl)
              try simp only [Act.put, List.setIfInBounds_toArray, List.set_cons_zero, List.set_cons_succ]
              refine wpAnyH_take (i := 11) (v := ?v11z2x) (by simp only [List.getElem?_toArray, List.getElem?_cons_succ, List.getElem?_cons_zero]; rfl) (by kernel_rfl) (by kernel_rfl) (by kernel_rfl) (by exact fun _ _ _ h => h) (Or.inl ⟨by rfl, ?h11z2x⟩) (by assumption) ?_
              case h11z2x => (intro W hSw; (try dsimp only at hSw); go_simp; try with_reducible rfl)
              try simp only [Act.put, List.setIfInBounds_toArray, List.set_cons_zero, List.set_cons_succ]
              refine wpAnyH_take (i := 12) (v := ?v12z2x) (by simp only [List.getElem?_toArray, List.getElem?_cons_succ, List.getElem?_cons_zero]; rfl) (by kernel_rfl) (by kernel_rfl) (by kernel_rfl) (by exact fun _ _ _ h => h) (Or.inl ⟨by rfl, ?h12z2x⟩) (by assumption) ?_
              case h12z2x => (intro W hSw; (try dsimp only at hSw); go_simp; try with_reducible rfl)
              try simp only [Act.put, List.setIfInBounds_toArray, List.set_cons_zero, List.set_cons_succ]
              refine wpAnyH_take (i := 13) (by simp only [List.getElem?_toArray, List.getElem?_cons_succ, List.getElem?_cons_zero]; rfl) (by kernel_rfl) (by kernel_rfl) (by kernel_rfl) (by exact fun _ _ _ h => h) (yieldsIf_loadG (by rfl) 3 (.tmp 78) rfl ⟨g14, j2 * 2, none⟩ rfl _ (fun W hW => load_intc hW)) (by assumption) ?_
              try simp only [Act.put, List.setIfInBounds_toArray, List.set_cons_zero, List.set_cons_succ]
              refine wpAnyH_take (i := 14) (v := ?v14z2x) (by simp only [List.getElem?_toArray, List.getElem?_cons_succ, List.getElem?_cons_zero]; rfl) (by kernel_rfl) (by kernel_rfl) (by kernel_rfl) (by exact fun _ _ _ h => h) (Or.inl ⟨by rfl, ?h14z2x⟩) (by assumption) ?_
              case h14z2x => (intro W hSw; (try dsimp only at hSw); go_simp; try with_reducible rfl)
              try simp only [Act.put, List.setIfInBounds_toArray, List.set_cons_zero, List.set_cons_succ]
              refine wpAnyH_ready (rs := [15]) (by kernel_rfl) (by simp) ?_
              refine AllReadyH.cons (by simp only [List.getElem?_toArray, List.getElem?_cons_succ, List.getElem?_cons_zero]; rfl) (fun K hK => ?_) AllReadyH.nil
              go_simp
              refine (CH.out _ B9.out.drew).mono ?_
              rintro en w10 ⟨rfl, b10⟩
              have DOWN : Hid (Below w9.heap.size w9 w10) := Lib.hid ((Below.refl _ w9).drew.trans b10)
              refine hK _ _ ((DOWN.out.cell G9.out).trans C9.out) (fun hH15 => ?_)
              clear hK K b10
              try simp only [Act.put, List.setIfInBounds_toArray, List.set_cons_zero, List.set_cons_succ]
              refine wpAnyH_take (i := 16) (v := ?v16z2x) (by simp only [List.getElem?_toArray, List.getElem?_cons_succ, List.getElem?_cons_zero]; rfl) (by kernel_rfl) (by kernel_rfl) (by kernel_rfl) (by exact fun _ _ _ h => h) (Or.inl ⟨by rfl, ?h16z2x⟩) (by assumption) ?_
              case h16z2x => (intro W hSw; (try dsimp only at hSw); go_simp; try with_reducible rfl)
              try simp only [Act.put, List.setIfInBounds_toArray, List.set_cons_zero, List.set_cons_succ]
              refine wpAnyH_take (i := 17) (v := ?v17z2x) (by simp only [List.getElem?_toArray, List.getElem?_cons_succ, List.getElem?_cons_zero]; rfl) (by kernel_rfl) (by kernel_rfl) (by kernel_rfl) (by exact fun _ _ _ h => h) (Or.inl ⟨by rfl, ?h17z2x⟩) (by assumption) ?_
              case h17z2x => (intro W hSw; (try dsimp only at hSw); go_simp; try with_reducible rfl)
              try simp only [Act.put, List.setIfInBounds_toArray, List.set_cons_zero, List.set_cons_succ]
              refine wpAnyH_take (i := 18) (v := ?v18z2x) (by simp only [List.getElem?_toArray, List.getElem?_cons_succ, List.getElem?_cons_zero]; rfl) (by kernel_rfl) (by kernel_rfl) (by kernel_rfl) (by exact fun _ _ _ h => h) (Or.inl ⟨by rfl, ?h18z2x⟩) (by assumption) ?_
              case h18z2x => (intro W hSw; (try dsimp only at hSw); go_simp; try with_reducible rfl)
              try simp only [Act.put, List.setIfInBounds_toArray, List.set_cons_zero, List.set_cons_succ]
              refine wpAnyH_take (i := 19) (v := ?v19z2x) (by simp only [List.getElem?_toArray, List.getElem?_cons_succ, List.getElem?_cons_zero]; rfl) (by kernel_rfl) (by kernel_rfl) (by kernel_rfl) (by exact fun _ _ _ h => h) (Or.inl ⟨by rfl, ?h19z2x⟩) (by assumption) ?_
              case h19z2x => (intro W hSw; (try dsimp only at hSw); go_simp; try with_reducible rfl)
              try simp only [Act.put, List.setIfInBounds_toArray, List.set_cons_zero, List.set_cons_succ]
              refine wpAnyH_take (i := 20) (v := ?v20z2x) (by simp only [List.getElem?_toArray, List.getElem?_cons_succ, List.getElem?_cons_zero]; rfl) (by kernel_rfl) (by kernel_rfl) (by kernel_rfl) (by exact fun _ _ _ h => h) (Or.inl ⟨by rfl, ?h20z2x⟩) (by assumption) ?_
              case h20z2x => (intro W hSw; (try dsimp only at hSw); go_simp; try with_reducible rfl)
              try simp only [Act.put, List.setIfInBounds_toArray, List.set_cons_zero, List.set_cons_succ]
              refine wpAnyH_take (i := 21) (v := ?v21z2x) (by simp only [List.getElem?_toArray, List.getElem?_cons_succ, List.getElem?_cons_zero]; rfl) (by kernel_rfl) (by kernel_rfl) (by kernel_rfl) (by exact fun _ _ _ h => h) (Or.inl ⟨by rfl, ?h21z2x⟩) (by assumption) ?_
              case h21z2x => (intro W hSw; (try dsimp only at hSw); go_simp; try with_reducible rfl)
              try simp only [Act.put, List.setIfInBounds_toArray, List.set_cons_zero, List.set_cons_succ]
              refine wpAnyH_take (i := 22) (v := ?v22z2x) (by simp only [List.getElem?_toArray, List.getElem?_cons_succ, List.getElem?_cons_zero]; rfl) (by kernel_rfl) (by kernel_rfl) (by kernel_rfl) (by exact fun _ _ _ h => h) (Or.inl ⟨by rfl, ?h22z2x⟩) (by assumption) ?_
              case h22z2x => (intro W hSw; (try dsimp only at hSw); go_simp; try with_reducible rfl)
              try simp only [Act.put, List.setIfInBounds_toArray, List.set_cons_zero, List.set_cons_succ]
              refine wpAnyH_take (i := 23) (v := ?v23z2x) (by simp only [List.getElem?_toArray, List.getElem?_cons_succ, List.getElem?_cons_zero]; rfl) (by kernel_rfl) (by kernel_rfl) (by kernel_rfl) (by exact fun _ _ _ h => h) (Or.inl ⟨by rfl, ?h23z2x⟩) (by assumption) ?_
              case h23z2x => (intro W hSw; (try dsimp only at hSw); go_simp; try with_reducible rfl)
              try simp only [Act.put, List.setIfInBounds_toArray, List.set_cons_zero, List.set_cons_succ]
              refine wpAnyH_take (i := 24) (by simp only [List.getElem?_toArray, List.getElem?_cons_succ, List.getElem?_cons_zero]; rfl) (by kernel_rfl) (by kernel_rfl) (by kernel_rfl) (by exact fun _ _ _ h => h) (yieldsIf_loadG (by rfl) 3 (.tmp 89) rfl ⟨g14, j2 * 2, none⟩ rfl _ (fun W hW => load_intc hW)) (by assumption) ?_
              try simp only [Act.put, List.setIfInBounds_toArray, List.set_cons_zero, List.set_cons_succ]
              refine wpAnyH_take (i := 25) (v := ?v25z2x) (by simp only [List.getElem?_toArray, List.getElem?_cons_succ, List.getElem?_cons_zero]; rfl) (by kernel_rfl) (by kernel_rfl) (by kernel_rfl) (by exact fun _ _ _ h => h) (Or.inl ⟨by rfl, ?h25z2x⟩) (by assumption) ?_
              case h25z2x => (intro W hSw; (try dsimp only at hSw); go_simp; try with_reducible rfl)
              try simp only [Act.put, List.setIfInBounds_toArray, List.set_cons_zero, List.set_cons_succ]
              refine wpAnyH_take (i := 26) (v := ?v26z2x) (by simp only [List.getElem?_toArray, List.getElem?_cons_succ, List.getElem?_cons_zero]; rfl) (by kernel_rfl) (by kernel_rfl) (by kernel_rfl) (by exact fun _ _ _ h => h) (Or.inl ⟨by rfl, ?h26z2x⟩) (by assumption) ?_
              case h26z2x => (intro W hSw; (try dsimp only at hSw); go_simp; try with_reducible rfl)
              try simp only [Act.put, List.setIfInBounds_toArray, List.set_cons_zero, List.set_cons_succ]
              refine wpAnyH_take (i := 27) (v := ?v27z2x) (by simp only [List.getElem?_toArray, List.getElem?_cons_succ, List.getElem?_cons_zero]; rfl) (by kernel_rfl) (by kernel_rfl) (by kernel_rfl) (by exact fun _ _ _ h => h) (Or.inl ⟨by rfl, ?h27z2x⟩) (by assumption) ?_
              case h27z2x => (intro W hSw; (try dsimp only at hSw); go_simp; try with_reducible rfl)
              try simp only [Act.put, List.setIfInBounds_toArray, List.set_cons_zero, List.set_cons_succ]
              refine wpAnyH_take (i := 28) (v := ?v28z2x) (by simp only [List.getElem?_toArray, List.getElem?_cons_succ, List.getElem?_cons_zero]; rfl) (by kernel_rfl) (by kernel_rfl) (by kernel_rfl) (by exact fun _ _ _ h => h) (Or.inl ⟨by rfl, ?h28z2x⟩) (by assumption) ?_
              case h28z2x => (intro W hSw; (try dsimp only at hSw); go_simp; try with_reducible rfl)
              try simp only [Act.put, List.setIfInBounds_toArray, List.set_cons_zero, List.set_cons_succ]
              refine wpAnyH_take (i := 29) (v := ?v29z2x) (by simp only [List.getElem?_toArray, List.getElem?_cons_succ, List.getElem?_cons_zero]; rfl) (by kernel_rfl) (by kernel_rfl) (by kernel_rfl) (by exact fun _ _ _ h => h) (Or.inl ⟨by rfl, ?h29z2x⟩) (by assumption) ?_
              case h29z2x => (intro W hSw; (try dsimp only at hSw); go_simp; try with_reducible rfl)
              try simp only [Act.put, List.setIfInBounds_toArray, List.set_cons_zero, List.set_cons_succ]
              refine wpAnyH_done (by kernel_rfl) ?_ _
              have CMz : Hid (∀ W, Below w5.heap.size w5 W → PRow W w5.heap.size (.slice (some ⟨g14, 0, none⟩) k c') (l.set j2 ⟨z, some ⟨wr.heap.size, 0, none⟩, sz, sz, zs⟩) → Calls Try.prog 24 #[.pointer (some ⟨g, 0, none⟩), .slice (some ⟨g14, 0, none⟩) k c'] W fun en W' => en = .returned (.int .i64 1) ∧ ∃ p' j' u' V' H', UpJ Z w W' g gd gp 140 p' j' ∧ SJ p' 140 V' j' 1 u' r H') := Lib.hid (fun W hb hp => by
                have q := CM.out W z hb hp ZB.out
                rw [BE.out, if_neg (by decide)] at q
                exact q)
              go_wp2_with (first
                | (go_at_call 24; refine (CMz.out _ (B9.out.trans (DOWN.out.mono B9.out.size)) (P9.out.below DOWN.out)).mono ?_; rintro e wa ⟨rfl, p', j', u', V', H', ua, sa⟩
                   have UA := Lib.hid ua
                   have SA := Lib.hid sa
                   clear ua sa)
                | (go_at_call 29; refine (turn_up UA.out SA.out).mono ?_; rintro e wb ⟨rfl, rfl⟩))
              go_ret
              exact ⟨rfl, UA.out.bel⟩
            · have hd2 : decide (z < (j2 : Int)) = false := decide_eq_false hb2
              have hnb : ¬ (z < 0 ∨ (hm : Int) ≤ z ∨ z < (j2 : Int)) := by omega
              by_cases hs5 : sz = 512
              · have hd3 : ((sz : Int) != 512) = false := by rw [hs5]; rfl
                by_cases hq : 40 < k
                · have hd4 : decide ((40 : Int) < (k : Int)) = true := decide_eq_true (by omega)
                  have BE : Hid (boE z hm j2 sz r = 2) := Lib.hid (by unfold boE; rw [if_neg hnb, if_neg (by omega), if_pos (by omega)])
                  clear hkk hr57 hnb
                  refine wp_region_held_drew (S := fun W => W.cell? ⟨g14, j2 * 2, none⟩ = some (.int .i64 z)) (by kernel_rfl) C9.out (fun hHeld => ?_)
                  refine wpAnyH_take (i := 0) (v := ?v0z3x) (by simp only [List.getElem?_toArray, List.getElem?_cons_succ, List.getElem?_cons_zero]; rfl) (by kernel_rfl) (by kernel_rfl) (by kernel_rfl) (by exact fun _ _ _ h => h) (Or.inl ⟨by rfl, ?h0z3x⟩) (by assumption) ?_
                  case h0z3x => (intro W hSw; (try dsimp only at hSw); go_simp; try with_reducible rfl)
                  try simp only [Act.put, List.setIfInBounds_toArray, List.set_cons_zero, List.set_cons_succ]
                  refine wpAnyH_take (i := 1) (v := ?v1z3x) (by simp only [List.getElem?_toArray, List.getElem?_cons_succ, List.getElem?_cons_zero]; rfl) (by kernel_rfl) (by kernel_rfl) (by kernel_rfl) (by exact fun _ _ _ h => h) (Or.inl ⟨by rfl, ?h1z3x⟩) (by assumption) ?_
                  case h1z3x => (intro W hSw; (try dsimp only at hSw); go_simp; try with_reducible rfl)
                  try simp only [Act.put, List.setIfInBounds_toArray, List.set_cons_zero, List.set_cons_succ]
                  refine wpAnyH_take (i := 2) (v := ?v2z3x) (by simp only [List.getElem?_toArray, List.getElem?_cons_succ, List.getElem?_cons_zero]; rfl) (by kernel_rfl) (by kernel_rfl) (by kernel_rfl) (by exact fun _ _ _ h => h) (Or.inl ⟨by rfl, ?h2z3x⟩) (by assumption) ?_
                  case h2z3x => (intro W hSw; (try dsimp only at hSw); go_simp; try with_reducible rfl)
                  try simp only [Act.put, List.setIfInBounds_toArray, List.set_cons_zero, List.set_cons_succ]
                  refine wpAnyH_take (i := 3) (v := ?v3z3x) (by simp only [List.getElem?_toArray, List.getElem?_cons_succ, List.getElem?_cons_zero]; rfl) (by kernel_rfl) (by kernel_rfl) (by kernel_rfl) (by exact fun _ _ _ h => h) (Or.inl ⟨by rfl, ?h3z3x⟩) (by assumption) ?_
                  case h3z3x => (intro W hSw; (try dsimp only at hSw); go_simp; try with_reducible rfl)
                  try simp only [Act.put, List.setIfInBounds_toArray, List.set_cons_zero, List.set_cons_succ]
                  refine wpAnyH_take (i := 4) (v := ?v4z3x) (by simp only [List.getElem?_toArray, List.getElem?_cons_succ, List.getElem?_cons_zero]; rfl) (by kernel_rfl) (by kernel_rfl) (by kernel_rfl) (by exact fun _ _ _ h => h) (Or.inl ⟨by rfl, ?h4z3x⟩) (by assumption) ?_
                  case h4z3x => (intro W hSw; (try dsimp only at hSw); go_simp; try with_reducible rfl)
                  try simp only [Act.put, List.setIfInBounds_toArray, List.set_cons_zero, List.set_cons_succ]
                  refine wpAnyH_take (i := 5) (by simp only [List.getElem?_toArray, List.getElem?_cons_succ, List.getElem?_cons_zero]; rfl) (by kernel_rfl) (by kernel_rfl) (by kernel_rfl) (by exact fun _ _ _ h => h) (yieldsIf_loadG (by rfl) 3 (.tmp 70) rfl ⟨g14, j2 * 2, none⟩ rfl _ (fun W hW => load_intc hW)) (by assumption) ?_
                  try simp only [Act.put, List.setIfInBounds_toArray, List.set_cons_zero, List.set_cons_succ]
                  refine wpAnyH_take (i := 6) (v := ?v6z3x) (by simp only [List.getElem?_toArray, List.getElem?_cons_succ, List.getElem?_cons_zero]; rfl) (by kernel_rfl) (by kernel_rfl) (by kernel_rfl) (by exact fun _ _ _ h => h) (Or.inl ⟨by rfl, ?h6z3x⟩) (by assumption) ?_
                  case h6z3x => (intro W hSw; (try dsimp only at hSw); go_simp; try with_reducible rfl)
                  try simp only [Act.put, List.setIfInBounds_toArray, List.set_cons_zero, List.set_cons_succ]
                  refine wpAnyH_take (i := 7) (v := ?v7z3x) (by simp only [List.getElem?_toArray, List.getElem?_cons_succ, List.getElem?_cons_zero]; rfl) (by kernel_rfl) (by kernel_rfl) (by kernel_rfl) (by exact fun _ _ _ h => h) (Or.inl ⟨by rfl, ?h7z3x⟩) (by assumption) ?_
                  case h7z3x => (intro W hSw; (try dsimp only at hSw); go_simp; try with_reducible rfl)
                  try simp only [Act.put, List.setIfInBounds_toArray, List.set_cons_zero, List.set_cons_succ]
                  refine wpAnyH_take (i := 8) (v := ?v8z3x) (by simp only [List.getElem?_toArray, List.getElem?_cons_succ, List.getElem?_cons_zero]; rfl) (by kernel_rfl) (by kernel_rfl) (by kernel_rfl) (by exact fun _ _ _ h => h) (Or.inl ⟨by rfl, ?h8z3x⟩) (by assumption) ?_
                  case h8z3x => (intro W hSw; (try dsimp only at hSw); go_simp; try with_reducible rfl)
                  try simp only [Act.put, List.setIfInBounds_toArray, List.set_cons_zero, List.set_cons_succ]
                  refine wpAnyH_take (i := 9) (v := ?v9z3x) (by simp only [List.getElem?_toArray, List.getElem?_cons_succ, List.getElem?_cons_zero]; rfl) (by kernel_rfl) (by kernel_rfl) (by kernel_rfl) (by exact fun _ _ _ h => h) (Or.inl ⟨by rfl, ?h9z3x⟩) (by assumption) ?_
                  case h9z3x => (intro W hSw; (try dsimp only at hSw); go_simp; try with_reducible rfl)
                  try simp only [Act.put, List.setIfInBounds_toArray, List.set_cons_zero, List.set_cons_succ]
                  refine wpAnyH_take (i := 10) (v := ?v10z3x) (by simp only [List.getElem?_toArray, List.getElem?_cons_succ, List.getElem?_cons_zero]; rfl) (by kernel_rfl) (by kernel_rfl) (by kernel_rfl) (by exact fun _ _ _ h => h) (Or.inl ⟨by rfl, ?h10z3x⟩) (by assumption) ?_
                  case h10z3x => (intro W hSw; (try dsimp only at hSw); go_simp; try with_reducible rfl)
                  try simp only [Act.put, List.setIfInBounds_toArray, List.set_cons_zero, List.set_cons_succ]
                  refine wpAnyH_take (i := 11) (v := ?v11z3x) (by simp only [List.getElem?_toArray, List.getElem?_cons_succ, List.getElem?_cons_zero]; rfl) (by kernel_rfl) (by kernel_rfl) (by kernel_rfl) (by exact fun _ _ _ h => h) (Or.inl ⟨by rfl, ?h11z3x⟩) (by assumption) ?_
                  case h11z3x => (intro W hSw; (try dsimp only at hSw); go_simp; try with_reducible rfl)
                  try simp only [Act.put, List.setIfInBounds_toArray, List.set_cons_zero, List.set_cons_succ]
                  refine wpAnyH_take (i := 12) (v := ?v12z3x) (by simp only [List.getElem?_toArray, List.getElem?_cons_succ, List.getElem?_cons_zero]; rfl) (by kernel_rfl) (by kernel_rfl) (by kernel_rfl) (by exact fun _ _ _ h => h) (Or.inl ⟨by rfl, ?h12z3x⟩) (by assumption) ?_
                  case h12z3x => (intro W hSw; (try dsimp only at hSw); go_simp; try with_reducible rfl)
                  try simp only [Act.put, List.setIfInBounds_toArray, List.set_cons_zero, List.set_cons_succ]
                  refine wpAnyH_take (i := 13) (by simp only [List.getElem?_toArray, List.getElem?_cons_succ, List.getElem?_cons_zero]; rfl) (by kernel_rfl) (by kernel_rfl) (by kernel_rfl) (by exact fun _ _ _ h => h) (yieldsIf_loadG (by rfl) 3 (.tmp 78) rfl ⟨g14, j2 * 2, none⟩ rfl _ (fun W hW => load_intc hW)) (by assumption) ?_
                  try simp only [Act.put, List.setIfInBounds_toArray, List.set_cons_zero, List.set_cons_succ]
                  refine wpAnyH_take (i := 14) (v := ?v14z3x) (by simp only [List.getElem?_toArray, List.getElem?_cons_succ, List.getElem?_cons_zero]; rfl) (by kernel_rfl) (by kernel_rfl) (by kernel_rfl) (by exact fun _ _ _ h => h) (Or.inl ⟨by rfl, ?h14z3x⟩) (by assumption) ?_
                  case h14z3x => (intro W hSw; (try dsimp only at hSw); go_simp; try with_reducible rfl)
                  try simp only [Act.put, List.setIfInBounds_toArray, List.set_cons_zero, List.set_cons_succ]
                  refine wpAnyH_ready (rs := [15]) (by kernel_rfl) (by simp) ?_
                  refine AllReadyH.cons (by simp only [List.getElem?_toArray, List.getElem?_cons_succ, List.getElem?_cons_zero]; rfl) (fun K hK => ?_) AllReadyH.nil
                  go_simp
                  refine (CH.out _ B9.out.drew).mono ?_
                  rintro en w10 ⟨rfl, b10⟩
                  have DOWN : Hid (Below w9.heap.size w9 w10) := Lib.hid ((Below.refl _ w9).drew.trans b10)
                  refine hK _ _ ((DOWN.out.cell G9.out).trans C9.out) (fun hH15 => ?_)
                  clear hK K b10
                  try simp only [Act.put, List.setIfInBounds_toArray, List.set_cons_zero, List.set_cons_succ]
                  refine wpAnyH_take (i := 16) (v := ?v16z3x) (by simp only [List.getElem?_toArray, List.getElem?_cons_succ, List.getElem?_cons_zero]; rfl) (by kernel_rfl) (by kernel_rfl) (by kernel_rfl) (by exact fun _ _ _ h => h) (Or.inl ⟨by rfl, ?h16z3x⟩) (by assumption) ?_
                  case h16z3x => (intro W hSw; (try dsimp only at hSw); go_simp; try with_reducible rfl)
                  try simp only [Act.put, List.setIfInBounds_toArray, List.set_cons_zero, List.set_cons_succ]
                  refine wpAnyH_take (i := 17) (v := ?v17z3x) (by simp only [List.getElem?_toArray, List.getElem?_cons_succ, List.getElem?_cons_zero]; rfl) (by kernel_rfl) (by kernel_rfl) (by kernel_rfl) (by exact fun _ _ _ h => h) (Or.inl ⟨by rfl, ?h17z3x⟩) (by assumption) ?_
                  case h17z3x => (intro W hSw; (try dsimp only at hSw); go_simp; try with_reducible rfl)
                  try simp only [Act.put, List.setIfInBounds_toArray, List.set_cons_zero, List.set_cons_succ]
                  refine wpAnyH_take (i := 18) (v := ?v18z3x) (by simp only [List.getElem?_toArray, List.getElem?_cons_succ, List.getElem?_cons_zero]; rfl) (by kernel_rfl) (by kernel_rfl) (by kernel_rfl) (by exact fun _ _ _ h => h) (Or.inl ⟨by rfl, ?h18z3x⟩) (by assumption) ?_
                  case h18z3x => (intro W hSw; (try dsimp only at hSw); go_simp; try with_reducible rfl)
                  try simp only [Act.put, List.setIfInBounds_toArray, List.set_cons_zero, List.set_cons_succ]
                  refine wpAnyH_take (i := 19) (v := ?v19z3x) (by simp only [List.getElem?_toArray, List.getElem?_cons_succ, List.getElem?_cons_zero]; rfl) (by kernel_rfl) (by kernel_rfl) (by kernel_rfl) (by exact fun _ _ _ h => h) (Or.inl ⟨by rfl, ?h19z3x⟩) (by assumption) ?_
                  case h19z3x => (intro W hSw; (try dsimp only at hSw); go_simp; try with_reducible rfl)
                  try simp only [Act.put, List.setIfInBounds_toArray, List.set_cons_zero, List.set_cons_succ]
                  refine wpAnyH_take (i := 20) (v := ?v20z3x) (by simp only [List.getElem?_toArray, List.getElem?_cons_succ, List.getElem?_cons_zero]; rfl) (by kernel_rfl) (by kernel_rfl) (by kernel_rfl) (by exact fun _ _ _ h => h) (Or.inl ⟨by rfl, ?h20z3x⟩) (by assumption) ?_
                  case h20z3x => (intro W hSw; (try dsimp only at hSw); go_simp; try with_reducible rfl)
                  try simp only [Act.put, List.setIfInBounds_toArray, List.set_cons_zero, List.set_cons_succ]
                  refine wpAnyH_take (i := 21) (v := ?v21z3x) (by simp only [List.getElem?_toArray, List.getElem?_cons_succ, List.getElem?_cons_zero]; rfl) (by kernel_rfl) (by kernel_rfl) (by kernel_rfl) (by exact fun _ _ _ h => h) (Or.inl ⟨by rfl, ?h21z3x⟩) (by assumption) ?_
                  case h21z3x => (intro W hSw; (try dsimp only at hSw); go_simp; try with_reducible rfl)
                  try simp only [Act.put, List.setIfInBounds_toArray, List.set_cons_zero, List.set_cons_succ]
                  refine wpAnyH_take (i := 22) (v := ?v22z3x) (by simp only [List.getElem?_toArray, List.getElem?_cons_succ, List.getElem?_cons_zero]; rfl) (by kernel_rfl) (by kernel_rfl) (by kernel_rfl) (by exact fun _ _ _ h => h) (Or.inl ⟨by rfl, ?h22z3x⟩) (by assumption) ?_
                  case h22z3x => (intro W hSw; (try dsimp only at hSw); go_simp; try with_reducible rfl)
                  try simp only [Act.put, List.setIfInBounds_toArray, List.set_cons_zero, List.set_cons_succ]
                  refine wpAnyH_take (i := 23) (v := ?v23z3x) (by simp only [List.getElem?_toArray, List.getElem?_cons_succ, List.getElem?_cons_zero]; rfl) (by kernel_rfl) (by kernel_rfl) (by kernel_rfl) (by exact fun _ _ _ h => h) (Or.inl ⟨by rfl, ?h23z3x⟩) (by assumption) ?_
                  case h23z3x => (intro W hSw; (try dsimp only at hSw); go_simp; try with_reducible rfl)
                  try simp only [Act.put, List.setIfInBounds_toArray, List.set_cons_zero, List.set_cons_succ]
                  refine wpAnyH_take (i := 24) (by simp only [List.getElem?_toArray, List.getElem?_cons_succ, List.getElem?_cons_zero]; rfl) (by kernel_rfl) (by kernel_rfl) (by kernel_rfl) (by exact fun _ _ _ h => h) (yieldsIf_loadG (by rfl) 3 (.tmp 89) rfl ⟨g14, j2 * 2, none⟩ rfl _ (fun W hW => load_intc hW)) (by assumption) ?_
                  try simp only [Act.put, List.setIfInBounds_toArray, List.set_cons_zero, List.set_cons_succ]
                  refine wpAnyH_take (i := 25) (v := ?v25z3x) (by simp only [List.getElem?_toArray, List.getElem?_cons_succ, List.getElem?_cons_zero]; rfl) (by kernel_rfl) (by kernel_rfl) (by kernel_rfl) (by exact fun _ _ _ h => h) (Or.inl ⟨by rfl, ?h25z3x⟩) (by assumption) ?_
                  case h25z3x => (intro W hSw; (try dsimp only at hSw); go_simp; try with_reducible rfl)
                  try simp only [Act.put, List.setIfInBounds_toArray, List.set_cons_zero, List.set_cons_succ]
                  refine wpAnyH_take (i := 26) (v := ?v26z3x) (by simp only [List.getElem?_toArray, List.getElem?_cons_succ, List.getElem?_cons_zero]; rfl) (by kernel_rfl) (by kernel_rfl) (by kernel_rfl) (by exact fun _ _ _ h => h) (Or.inl ⟨by rfl, ?h26z3x⟩) (by assumption) ?_
                  case h26z3x => (intro W hSw; (try dsimp only at hSw); go_simp; try with_reducible rfl)
                  try simp only [Act.put, List.setIfInBounds_toArray, List.set_cons_zero, List.set_cons_succ]
                  refine wpAnyH_take (i := 27) (v := ?v27z3x) (by simp only [List.getElem?_toArray, List.getElem?_cons_succ, List.getElem?_cons_zero]; rfl) (by kernel_rfl) (by kernel_rfl) (by kernel_rfl) (by exact fun _ _ _ h => h) (Or.inl ⟨by rfl, ?h27z3x⟩) (by assumption) ?_
                  case h27z3x => (intro W hSw; (try dsimp only at hSw); go_simp; try with_reducible rfl)
                  try simp only [Act.put, List.setIfInBounds_toArray, List.set_cons_zero, List.set_cons_succ]
                  refine wpAnyH_take (i := 28) (v := ?v28z3x) (by simp only [List.getElem?_toArray, List.getElem?_cons_succ, List.getElem?_cons_zero]; rfl) (by kernel_rfl) (by kernel_rfl) (by kernel_rfl) (by exact fun _ _ _ h => h) (Or.inl ⟨by rfl, ?h28z3x⟩) (by assumption) ?_
                  case h28z3x => (intro W hSw; (try dsimp only at hSw); go_simp; try with_reducible rfl)
                  try simp only [Act.put, List.setIfInBounds_toArray, List.set_cons_zero, List.set_cons_succ]
                  refine wpAnyH_take (i := 29) (v := ?v29z3x) (by simp only [List.getElem?_toArray, List.getElem?_cons_succ, List.getElem?_cons_zero]; rfl) (by kernel_rfl) (by kernel_rfl) (by kernel_rfl) (by exact fun _ _ _ h => h) (Or.inl ⟨by rfl, ?h29z3x⟩) (by assumption) ?_
                  case h29z3x => (intro W hSw; (try dsimp only at hSw); go_simp; try with_reducible rfl)
                  try simp only [Act.put, List.setIfInBounds_toArray, List.set_cons_zero, List.set_cons_succ]
                  refine wpAnyH_done (by kernel_rfl) ?_ _
                  have CMz : Hid (∀ W, Below w5.heap.size w5 W → PRow W w5.heap.size (.slice (some ⟨g14, 0, none⟩) k c') (l.set j2 ⟨z, some ⟨wr.heap.size, 0, none⟩, sz, sz, zs⟩) → Calls Try.prog 24 #[.pointer (some ⟨g, 0, none⟩), .slice (some ⟨g14, 0, none⟩) k c'] W fun en W' => en = .returned (.int .i64 2) ∧ ∃ p' j' u' V' H', UpJ Z w W' g gd gp 140 p' j' ∧ SJ p' 140 V' j' 1 u' r H') := Lib.hid (fun W hb hp => by
                    have q := CM.out W z hb hp ZB.out
                    rw [BE.out, if_neg (by decide)] at q
                    exact q)
                  go_wp2_with (first
                    | (go_at_call 24; refine (CMz.out _ (B9.out.trans (DOWN.out.mono B9.out.size)) (P9.out.below DOWN.out)).mono ?_; rintro e wa ⟨rfl, p', j', u', V', H', ua, sa⟩
                       have UA := Lib.hid ua
                       have SA := Lib.hid sa
                       clear ua sa)
                    | (go_at_call 29; refine (turn_up UA.out SA.out).mono ?_; rintro e wb ⟨rfl, rfl⟩))
                  go_ret
                  exact ⟨rfl, UA.out.bel⟩
                · have hd4 : decide ((40 : Int) < (k : Int)) = false := decide_eq_false (by omega)
                  by_cases hq2 : r ≤ k
                  · have hd5 : decide ((r : Int) ≤ (k : Int)) = true := decide_eq_true (by omega)
                    have BE : Hid (boE z hm j2 sz r = 2) := Lib.hid (by unfold boE; rw [if_neg hnb, if_neg (by omega), if_pos (by omega)])
                    clear hkk hr57 hnb
                    refine wp_region_held_drew (S := fun W => W.cell? ⟨g14, j2 * 2, none⟩ = some (.int .i64 z)) (by kernel_rfl) C9.out (fun hHeld => ?_)
                    refine wpAnyH_take (i := 0) (v := ?v0z4x) (by simp only [List.getElem?_toArray, List.getElem?_cons_succ, List.getElem?_cons_zero]; rfl) (by kernel_rfl) (by kernel_rfl) (by kernel_rfl) (by exact fun _ _ _ h => h) (Or.inl ⟨by rfl, ?h0z4x⟩) (by assumption) ?_
                    case h0z4x => (intro W hSw; (try dsimp only at hSw); go_simp; try with_reducible rfl)
                    try simp only [Act.put, List.setIfInBounds_toArray, List.set_cons_zero, List.set_cons_succ]
                    refine wpAnyH_take (i := 1) (v := ?v1z4x) (by simp only [List.getElem?_toArray, List.getElem?_cons_succ, List.getElem?_cons_zero]; rfl) (by kernel_rfl) (by kernel_rfl) (by kernel_rfl) (by exact fun _ _ _ h => h) (Or.inl ⟨by rfl, ?h1z4x⟩) (by assumption) ?_
                    case h1z4x => (intro W hSw; (try dsimp only at hSw); go_simp; try with_reducible rfl)
                    try simp only [Act.put, List.setIfInBounds_toArray, List.set_cons_zero, List.set_cons_succ]
                    refine wpAnyH_take (i := 2) (v := ?v2z4x) (by simp only [List.getElem?_toArray, List.getElem?_cons_succ, List.getElem?_cons_zero]; rfl) (by kernel_rfl) (by kernel_rfl) (by kernel_rfl) (by exact fun _ _ _ h => h) (Or.inl ⟨by rfl, ?h2z4x⟩) (by assumption) ?_
                    case h2z4x => (intro W hSw; (try dsimp only at hSw); go_simp; try with_reducible rfl)
                    try simp only [Act.put, List.setIfInBounds_toArray, List.set_cons_zero, List.set_cons_succ]
                    refine wpAnyH_take (i := 3) (v := ?v3z4x) (by simp only [List.getElem?_toArray, List.getElem?_cons_succ, List.getElem?_cons_zero]; rfl) (by kernel_rfl) (by kernel_rfl) (by kernel_rfl) (by exact fun _ _ _ h => h) (Or.inl ⟨by rfl, ?h3z4x⟩) (by assumption) ?_
                    case h3z4x => (intro W hSw; (try dsimp only at hSw); go_simp; try with_reducible rfl)
                    try simp only [Act.put, List.setIfInBounds_toArray, List.set_cons_zero, List.set_cons_succ]
                    refine wpAnyH_take (i := 4) (v := ?v4z4x) (by simp only [List.getElem?_toArray, List.getElem?_cons_succ, List.getElem?_cons_zero]; rfl) (by kernel_rfl) (by kernel_rfl) (by kernel_rfl) (by exact fun _ _ _ h => h) (Or.inl ⟨by rfl, ?h4z4x⟩) (by assumption) ?_
                    case h4z4x => (intro W hSw; (try dsimp only at hSw); go_simp; try with_reducible rfl)
                    try simp only [Act.put, List.setIfInBounds_toArray, List.set_cons_zero, List.set_cons_succ]
                    refine wpAnyH_take (i := 5) (by simp only [List.getElem?_toArray, List.getElem?_cons_succ, List.getElem?_cons_zero]; rfl) (by kernel_rfl) (by kernel_rfl) (by kernel_rfl) (by exact fun _ _ _ h => h) (yieldsIf_loadG (by rfl) 3 (.tmp 70) rfl ⟨g14, j2 * 2, none⟩ rfl _ (fun W hW => load_intc hW)) (by assumption) ?_
                    try simp only [Act.put, List.setIfInBounds_toArray, List.set_cons_zero, List.set_cons_succ]
                    refine wpAnyH_take (i := 6) (v := ?v6z4x) (by simp only [List.getElem?_toArray, List.getElem?_cons_succ, List.getElem?_cons_zero]; rfl) (by kernel_rfl) (by kernel_rfl) (by kernel_rfl) (by exact fun _ _ _ h => h) (Or.inl ⟨by rfl, ?h6z4x⟩) (by assumption) ?_
                    case h6z4x => (intro W hSw; (try dsimp only at hSw); go_simp; try with_reducible rfl)
                    try simp only [Act.put, List.setIfInBounds_toArray, List.set_cons_zero, List.set_cons_succ]
                    refine wpAnyH_take (i := 7) (v := ?v7z4x) (by simp only [List.getElem?_toArray, List.getElem?_cons_succ, List.getElem?_cons_zero]; rfl) (by kernel_rfl) (by kernel_rfl) (by kernel_rfl) (by exact fun _ _ _ h => h) (Or.inl ⟨by rfl, ?h7z4x⟩) (by assumption) ?_
                    case h7z4x => (intro W hSw; (try dsimp only at hSw); go_simp; try with_reducible rfl)
                    try simp only [Act.put, List.setIfInBounds_toArray, List.set_cons_zero, List.set_cons_succ]
                    refine wpAnyH_take (i := 8) (v := ?v8z4x) (by simp only [List.getElem?_toArray, List.getElem?_cons_succ, List.getElem?_cons_zero]; rfl) (by kernel_rfl) (by kernel_rfl) (by kernel_rfl) (by exact fun _ _ _ h => h) (Or.inl ⟨by rfl, ?h8z4x⟩) (by assumption) ?_
                    case h8z4x => (intro W hSw; (try dsimp only at hSw); go_simp; try with_reducible rfl)
                    try simp only [Act.put, List.setIfInBounds_toArray, List.set_cons_zero, List.set_cons_succ]
                    refine wpAnyH_take (i := 9) (v := ?v9z4x) (by simp only [List.getElem?_toArray, List.getElem?_cons_succ, List.getElem?_cons_zero]; rfl) (by kernel_rfl) (by kernel_rfl) (by kernel_rfl) (by exact fun _ _ _ h => h) (Or.inl ⟨by rfl, ?h9z4x⟩) (by assumption) ?_
                    case h9z4x => (intro W hSw; (try dsimp only at hSw); go_simp; try with_reducible rfl)
                    try simp only [Act.put, List.setIfInBounds_toArray, List.set_cons_zero, List.set_cons_succ]
                    refine wpAnyH_take (i := 10) (v := ?v10z4x) (by simp only [List.getElem?_toArray, List.getElem?_cons_succ, List.getElem?_cons_zero]; rfl) (by kernel_rfl) (by kernel_rfl) (by kernel_rfl) (by exact fun _ _ _ h => h) (Or.inl ⟨by rfl, ?h10z4x⟩) (by assumption) ?_
                    case h10z4x => (intro W hSw; (try dsimp only at hSw); go_simp; try with_reducible rfl)
                    try simp only [Act.put, List.setIfInBounds_toArray, List.set_cons_zero, List.set_cons_succ]
                    refine wpAnyH_take (i := 11) (v := ?v11z4x) (by simp only [List.getElem?_toArray, List.getElem?_cons_succ, List.getElem?_cons_zero]; rfl) (by kernel_rfl) (by kernel_rfl) (by kernel_rfl) (by exact fun _ _ _ h => h) (Or.inl ⟨by rfl, ?h11z4x⟩) (by assumption) ?_
                    case h11z4x => (intro W hSw; (try dsimp only at hSw); go_simp; try with_reducible rfl)
                    try simp only [Act.put, List.setIfInBounds_toArray, List.set_cons_zero, List.set_cons_succ]
                    refine wpAnyH_take (i := 12) (v := ?v12z4x) (by simp only [List.getElem?_toArray, List.getElem?_cons_succ, List.getElem?_cons_zero]; rfl) (by kernel_rfl) (by kernel_rfl) (by kernel_rfl) (by exact fun _ _ _ h => h) (Or.inl ⟨by rfl, ?h12z4x⟩) (by assumption) ?_
                    case h12z4x => (intro W hSw; (try dsimp only at hSw); go_simp; try with_reducible rfl)
                    try simp only [Act.put, List.setIfInBounds_toArray, List.set_cons_zero, List.set_cons_succ]
                    refine wpAnyH_take (i := 13) (by simp only [List.getElem?_toArray, List.getElem?_cons_succ, List.getElem?_cons_zero]; rfl) (by kernel_rfl) (by kernel_rfl) (by kernel_rfl) (by exact fun _ _ _ h => h) (yieldsIf_loadG (by rfl) 3 (.tmp 78) rfl ⟨g14, j2 * 2, none⟩ rfl _ (fun W hW => load_intc hW)) (by assumption) ?_
                    try simp only [Act.put, List.setIfInBounds_toArray, List.set_cons_zero, List.set_cons_succ]
                    refine wpAnyH_take (i := 14) (v := ?v14z4x) (by simp only [List.getElem?_toArray, List.getElem?_cons_succ, List.getElem?_cons_zero]; rfl) (by kernel_rfl) (by kernel_rfl) (by kernel_rfl) (by exact fun _ _ _ h => h) (Or.inl ⟨by rfl, ?h14z4x⟩) (by assumption) ?_
                    case h14z4x => (intro W hSw; (try dsimp only at hSw); go_simp; try with_reducible rfl)
                    try simp only [Act.put, List.setIfInBounds_toArray, List.set_cons_zero, List.set_cons_succ]
                    refine wpAnyH_ready (rs := [15]) (by kernel_rfl) (by simp) ?_
                    refine AllReadyH.cons (by simp only [List.getElem?_toArray, List.getElem?_cons_succ, List.getElem?_cons_zero]; rfl) (fun K hK => ?_) AllReadyH.nil
                    go_simp
                    refine (CH.out _ B9.out.drew).mono ?_
                    rintro en w10 ⟨rfl, b10⟩
                    have DOWN : Hid (Below w9.heap.size w9 w10) := Lib.hid ((Below.refl _ w9).drew.trans b10)
                    refine hK _ _ ((DOWN.out.cell G9.out).trans C9.out) (fun hH15 => ?_)
                    clear hK K b10
                    try simp only [Act.put, List.setIfInBounds_toArray, List.set_cons_zero, List.set_cons_succ]
                    refine wpAnyH_take (i := 16) (v := ?v16z4x) (by simp only [List.getElem?_toArray, List.getElem?_cons_succ, List.getElem?_cons_zero]; rfl) (by kernel_rfl) (by kernel_rfl) (by kernel_rfl) (by exact fun _ _ _ h => h) (Or.inl ⟨by rfl, ?h16z4x⟩) (by assumption) ?_
                    case h16z4x => (intro W hSw; (try dsimp only at hSw); go_simp; try with_reducible rfl)
                    try simp only [Act.put, List.setIfInBounds_toArray, List.set_cons_zero, List.set_cons_succ]
                    refine wpAnyH_take (i := 17) (v := ?v17z4x) (by simp only [List.getElem?_toArray, List.getElem?_cons_succ, List.getElem?_cons_zero]; rfl) (by kernel_rfl) (by kernel_rfl) (by kernel_rfl) (by exact fun _ _ _ h => h) (Or.inl ⟨by rfl, ?h17z4x⟩) (by assumption) ?_
                    case h17z4x => (intro W hSw; (try dsimp only at hSw); go_simp; try with_reducible rfl)
                    try simp only [Act.put, List.setIfInBounds_toArray, List.set_cons_zero, List.set_cons_succ]
                    refine wpAnyH_take (i := 18) (v := ?v18z4x) (by simp only [List.getElem?_toArray, List.getElem?_cons_succ, List.getElem?_cons_zero]; rfl) (by kernel_rfl) (by kernel_rfl) (by kernel_rfl) (by exact fun _ _ _ h => h) (Or.inl ⟨by rfl, ?h18z4x⟩) (by assumption) ?_
                    case h18z4x => (intro W hSw; (try dsimp only at hSw); go_simp; try with_reducible rfl)
                    try simp only [Act.put, List.setIfInBounds_toArray, List.set_cons_zero, List.set_cons_succ]
                    refine wpAnyH_take (i := 19) (v := ?v19z4x) (by simp only [List.getElem?_toArray, List.getElem?_cons_succ, List.getElem?_cons_zero]; rfl) (by kernel_rfl) (by kernel_rfl) (by kernel_rfl) (by exact fun _ _ _ h => h) (Or.inl ⟨by rfl, ?h19z4x⟩) (by assumption) ?_
                    case h19z4x => (intro W hSw; (try dsimp only at hSw); go_simp; try with_reducible rfl)
                    try simp only [Act.put, List.setIfInBounds_toArray, List.set_cons_zero, List.set_cons_succ]
                    refine wpAnyH_take (i := 20) (v := ?v20z4x) (by simp only [List.getElem?_toArray, List.getElem?_cons_succ, List.getElem?_cons_zero]; rfl) (by kernel_rfl) (by kernel_rfl) (by kernel_rfl) (by exact fun _ _ _ h => h) (Or.inl ⟨by rfl, ?h20z4x⟩) (by assumption) ?_
                    case h20z4x => (intro W hSw; (try dsimp only at hSw); go_simp; try with_reducible rfl)
                    try simp only [Act.put, List.setIfInBounds_toArray, List.set_cons_zero, List.set_cons_succ]
                    refine wpAnyH_take (i := 21) (v := ?v21z4x) (by simp only [List.getElem?_toArray, List.getElem?_cons_succ, List.getElem?_cons_zero]; rfl) (by kernel_rfl) (by kernel_rfl) (by kernel_rfl) (by exact fun _ _ _ h => h) (Or.inl ⟨by rfl, ?h21z4x⟩) (by assumption) ?_
                    case h21z4x => (intro W hSw; (try dsimp only at hSw); go_simp; try with_reducible rfl)
                    try simp only [Act.put, List.setIfInBounds_toArray, List.set_cons_zero, List.set_cons_succ]
                    refine wpAnyH_take (i := 22) (v := ?v22z4x) (by simp only [List.getElem?_toArray, List.getElem?_cons_succ, List.getElem?_cons_zero]; rfl) (by kernel_rfl) (by kernel_rfl) (by kernel_rfl) (by exact fun _ _ _ h => h) (Or.inl ⟨by rfl, ?h22z4x⟩) (by assumption) ?_
                    case h22z4x => (intro W hSw; (try dsimp only at hSw); go_simp; try with_reducible rfl)
                    try simp only [Act.put, List.setIfInBounds_toArray, List.set_cons_zero, List.set_cons_succ]
                    refine wpAnyH_take (i := 23) (v := ?v23z4x) (by simp only [List.getElem?_toArray, List.getElem?_cons_succ, List.getElem?_cons_zero]; rfl) (by kernel_rfl) (by kernel_rfl) (by kernel_rfl) (by exact fun _ _ _ h => h) (Or.inl ⟨by rfl, ?h23z4x⟩) (by assumption) ?_
                    case h23z4x => (intro W hSw; (try dsimp only at hSw); go_simp; try with_reducible rfl)
                    try simp only [Act.put, List.setIfInBounds_toArray, List.set_cons_zero, List.set_cons_succ]
                    refine wpAnyH_take (i := 24) (by simp only [List.getElem?_toArray, List.getElem?_cons_succ, List.getElem?_cons_zero]; rfl) (by kernel_rfl) (by kernel_rfl) (by kernel_rfl) (by exact fun _ _ _ h => h) (yieldsIf_loadG (by rfl) 3 (.tmp 89) rfl ⟨g14, j2 * 2, none⟩ rfl _ (fun W hW => load_intc hW)) (by assumption) ?_
                    try simp only [Act.put, List.setIfInBounds_toArray, List.set_cons_zero, List.set_cons_succ]
                    refine wpAnyH_take (i := 25) (v := ?v25z4x) (by simp only [List.getElem?_toArray, List.getElem?_cons_succ, List.getElem?_cons_zero]; rfl) (by kernel_rfl) (by kernel_rfl) (by kernel_rfl) (by exact fun _ _ _ h => h) (Or.inl ⟨by rfl, ?h25z4x⟩) (by assumption) ?_
                    case h25z4x => (intro W hSw; (try dsimp only at hSw); go_simp; try with_reducible rfl)
                    try simp only [Act.put, List.setIfInBounds_toArray, List.set_cons_zero, List.set_cons_succ]
                    refine wpAnyH_take (i := 26) (v := ?v26z4x) (by simp only [List.getElem?_toArray, List.getElem?_cons_succ, List.getElem?_cons_zero]; rfl) (by kernel_rfl) (by kernel_rfl) (by kernel_rfl) (by exact fun _ _ _ h => h) (Or.inl ⟨by rfl, ?h26z4x⟩) (by assumption) ?_
                    case h26z4x => (intro W hSw; (try dsimp only at hSw); go_simp; try with_reducible rfl)
                    try simp only [Act.put, List.setIfInBounds_toArray, List.set_cons_zero, List.set_cons_succ]
                    refine wpAnyH_take (i := 27) (v := ?v27z4x) (by simp only [List.getElem?_toArray, List.getElem?_cons_succ, List.getElem?_cons_zero]; rfl) (by kernel_rfl) (by kernel_rfl) (by kernel_rfl) (by exact fun _ _ _ h => h) (Or.inl ⟨by rfl, ?h27z4x⟩) (by assumption) ?_
                    case h27z4x => (intro W hSw; (try dsimp only at hSw); go_simp; try with_reducible rfl)
                    try simp only [Act.put, List.setIfInBounds_toArray, List.set_cons_zero, List.set_cons_succ]
                    refine wpAnyH_take (i := 28) (v := ?v28z4x) (by simp only [List.getElem?_toArray, List.getElem?_cons_succ, List.getElem?_cons_zero]; rfl) (by kernel_rfl) (by kernel_rfl) (by kernel_rfl) (by exact fun _ _ _ h => h) (Or.inl ⟨by rfl, ?h28z4x⟩) (by assumption) ?_
                    case h28z4x => (intro W hSw; (try dsimp only at hSw); go_simp; try with_reducible rfl)
                    try simp only [Act.put, List.setIfInBounds_toArray, List.set_cons_zero, List.set_cons_succ]
                    refine wpAnyH_take (i := 29) (v := ?v29z4x) (by simp only [List.getElem?_toArray, List.getElem?_cons_succ, List.getElem?_cons_zero]; rfl) (by kernel_rfl) (by kernel_rfl) (by kernel_rfl) (by exact fun _ _ _ h => h) (Or.inl ⟨by rfl, ?h29z4x⟩) (by assumption) ?_
                    case h29z4x => (intro W hSw; (try dsimp only at hSw); go_simp; try with_reducible rfl)
                    try simp only [Act.put, List.setIfInBounds_toArray, List.set_cons_zero, List.set_cons_succ]
                    refine wpAnyH_done (by kernel_rfl) ?_ _
                    have CMz : Hid (∀ W, Below w5.heap.size w5 W → PRow W w5.heap.size (.slice (some ⟨g14, 0, none⟩) k c') (l.set j2 ⟨z, some ⟨wr.heap.size, 0, none⟩, sz, sz, zs⟩) → Calls Try.prog 24 #[.pointer (some ⟨g, 0, none⟩), .slice (some ⟨g14, 0, none⟩) k c'] W fun en W' => en = .returned (.int .i64 2) ∧ ∃ p' j' u' V' H', UpJ Z w W' g gd gp 140 p' j' ∧ SJ p' 140 V' j' 1 u' r H') := Lib.hid (fun W hb hp => by
                      have q := CM.out W z hb hp ZB.out
                      rw [BE.out, if_neg (by decide)] at q
                      exact q)
                    go_wp2_with (first
                      | (go_at_call 24; refine (CMz.out _ (B9.out.trans (DOWN.out.mono B9.out.size)) (P9.out.below DOWN.out)).mono ?_; rintro e wa ⟨rfl, p', j', u', V', H', ua, sa⟩
                         have UA := Lib.hid ua
                         have SA := Lib.hid sa
                         clear ua sa)
                      | (go_at_call 29; refine (turn_up UA.out SA.out).mono ?_; rintro e wb ⟨rfl, rfl⟩))
                    go_ret
                    exact ⟨rfl, UA.out.bel⟩
                  · have hd5 : decide ((r : Int) ≤ (k : Int)) = false := decide_eq_false (by omega)
                    have BE : Hid (boE z hm j2 sz r = 0) := Lib.hid (by unfold boE; rw [if_neg hnb, if_neg (by omega), if_neg (by omega)])
                    clear hkk hr57 hnb
                    refine wp_region_held_drew (S := fun W => W.cell? ⟨g14, j2 * 2, none⟩ = some (.int .i64 z)) (by kernel_rfl) C9.out (fun hHeld => ?_)
                    refine wpAnyH_take (i := 0) (v := ?v0z5x) (by simp only [List.getElem?_toArray, List.getElem?_cons_succ, List.getElem?_cons_zero]; rfl) (by kernel_rfl) (by kernel_rfl) (by kernel_rfl) (by exact fun _ _ _ h => h) (Or.inl ⟨by rfl, ?h0z5x⟩) (by assumption) ?_
                    case h0z5x => (intro W hSw; (try dsimp only at hSw); go_simp; try with_reducible rfl)
                    try simp only [Act.put, List.setIfInBounds_toArray, List.set_cons_zero, List.set_cons_succ]
                    refine wpAnyH_take (i := 1) (v := ?v1z5x) (by simp only [List.getElem?_toArray, List.getElem?_cons_succ, List.getElem?_cons_zero]; rfl) (by kernel_rfl) (by kernel_rfl) (by kernel_rfl) (by exact fun _ _ _ h => h) (Or.inl ⟨by rfl, ?h1z5x⟩) (by assumption) ?_
                    case h1z5x => (intro W hSw; (try dsimp only at hSw); go_simp; try with_reducible rfl)
                    try simp only [Act.put, List.setIfInBounds_toArray, List.set_cons_zero, List.set_cons_succ]
                    refine wpAnyH_take (i := 2) (v := ?v2z5x) (by simp only [List.getElem?_toArray, List.getElem?_cons_succ, List.getElem?_cons_zero]; rfl) (by kernel_rfl) (by kernel_rfl) (by kernel_rfl) (by exact fun _ _ _ h => h) (Or.inl ⟨by rfl, ?h2z5x⟩) (by assumption) ?_
                    case h2z5x => (intro W hSw; (try dsimp only at hSw); go_simp; try with_reducible rfl)
                    try simp only [Act.put, List.setIfInBounds_toArray, List.set_cons_zero, List.set_cons_succ]
                    refine wpAnyH_take (i := 3) (v := ?v3z5x) (by simp only [List.getElem?_toArray, List.getElem?_cons_succ, List.getElem?_cons_zero]; rfl) (by kernel_rfl) (by kernel_rfl) (by kernel_rfl) (by exact fun _ _ _ h => h) (Or.inl ⟨by rfl, ?h3z5x⟩) (by assumption) ?_
                    case h3z5x => (intro W hSw; (try dsimp only at hSw); go_simp; try with_reducible rfl)
                    try simp only [Act.put, List.setIfInBounds_toArray, List.set_cons_zero, List.set_cons_succ]
                    refine wpAnyH_take (i := 4) (v := ?v4z5x) (by simp only [List.getElem?_toArray, List.getElem?_cons_succ, List.getElem?_cons_zero]; rfl) (by kernel_rfl) (by kernel_rfl) (by kernel_rfl) (by exact fun _ _ _ h => h) (Or.inl ⟨by rfl, ?h4z5x⟩) (by assumption) ?_
                    case h4z5x => (intro W hSw; (try dsimp only at hSw); go_simp; try with_reducible rfl)
                    try simp only [Act.put, List.setIfInBounds_toArray, List.set_cons_zero, List.set_cons_succ]
                    refine wpAnyH_take (i := 5) (by simp only [List.getElem?_toArray, List.getElem?_cons_succ, List.getElem?_cons_zero]; rfl) (by kernel_rfl) (by kernel_rfl) (by kernel_rfl) (by exact fun _ _ _ h => h) (yieldsIf_loadG (by rfl) 3 (.tmp 70) rfl ⟨g14, j2 * 2, none⟩ rfl _ (fun W hW => load_intc hW)) (by assumption) ?_
                    try simp only [Act.put, List.setIfInBounds_toArray, List.set_cons_zero, List.set_cons_succ]
                    refine wpAnyH_take (i := 6) (v := ?v6z5x) (by simp only [List.getElem?_toArray, List.getElem?_cons_succ, List.getElem?_cons_zero]; rfl) (by kernel_rfl) (by kernel_rfl) (by kernel_rfl) (by exact fun _ _ _ h => h) (Or.inl ⟨by rfl, ?h6z5x⟩) (by assumption) ?_
                    case h6z5x => (intro W hSw; (try dsimp only at hSw); go_simp; try with_reducible rfl)
                    try simp only [Act.put, List.setIfInBounds_toArray, List.set_cons_zero, List.set_cons_succ]
                    refine wpAnyH_take (i := 7) (v := ?v7z5x) (by simp only [List.getElem?_toArray, List.getElem?_cons_succ, List.getElem?_cons_zero]; rfl) (by kernel_rfl) (by kernel_rfl) (by kernel_rfl) (by exact fun _ _ _ h => h) (Or.inl ⟨by rfl, ?h7z5x⟩) (by assumption) ?_
                    case h7z5x => (intro W hSw; (try dsimp only at hSw); go_simp; try with_reducible rfl)
                    try simp only [Act.put, List.setIfInBounds_toArray, List.set_cons_zero, List.set_cons_succ]
                    refine wpAnyH_take (i := 8) (v := ?v8z5x) (by simp only [List.getElem?_toArray, List.getElem?_cons_succ, List.getElem?_cons_zero]; rfl) (by kernel_rfl) (by kernel_rfl) (by kernel_rfl) (by exact fun _ _ _ h => h) (Or.inl ⟨by rfl, ?h8z5x⟩) (by assumption) ?_
                    case h8z5x => (intro W hSw; (try dsimp only at hSw); go_simp; try with_reducible rfl)
                    try simp only [Act.put, List.setIfInBounds_toArray, List.set_cons_zero, List.set_cons_succ]
                    refine wpAnyH_take (i := 9) (v := ?v9z5x) (by simp only [List.getElem?_toArray, List.getElem?_cons_succ, List.getElem?_cons_zero]; rfl) (by kernel_rfl) (by kernel_rfl) (by kernel_rfl) (by exact fun _ _ _ h => h) (Or.inl ⟨by rfl, ?h9z5x⟩) (by assumption) ?_
                    case h9z5x => (intro W hSw; (try dsimp only at hSw); go_simp; try with_reducible rfl)
                    try simp only [Act.put, List.setIfInBounds_toArray, List.set_cons_zero, List.set_cons_succ]
                    refine wpAnyH_take (i := 10) (v := ?v10z5x) (by simp only [List.getElem?_toArray, List.getElem?_cons_succ, List.getElem?_cons_zero]; rfl) (by kernel_rfl) (by kernel_rfl) (by kernel_rfl) (by exact fun _ _ _ h => h) (Or.inl ⟨by rfl, ?h10z5x⟩) (by assumption) ?_
                    case h10z5x => (intro W hSw; (try dsimp only at hSw); go_simp; try with_reducible rfl)
                    try simp only [Act.put, List.setIfInBounds_toArray, List.set_cons_zero, List.set_cons_succ]
                    refine wpAnyH_take (i := 11) (v := ?v11z5x) (by simp only [List.getElem?_toArray, List.getElem?_cons_succ, List.getElem?_cons_zero]; rfl) (by kernel_rfl) (by kernel_rfl) (by kernel_rfl) (by exact fun _ _ _ h => h) (Or.inl ⟨by rfl, ?h11z5x⟩) (by assumption) ?_
                    case h11z5x => (intro W hSw; (try dsimp only at hSw); go_simp; try with_reducible rfl)
                    try simp only [Act.put, List.setIfInBounds_toArray, List.set_cons_zero, List.set_cons_succ]
                    refine wpAnyH_take (i := 12) (v := ?v12z5x) (by simp only [List.getElem?_toArray, List.getElem?_cons_succ, List.getElem?_cons_zero]; rfl) (by kernel_rfl) (by kernel_rfl) (by kernel_rfl) (by exact fun _ _ _ h => h) (Or.inl ⟨by rfl, ?h12z5x⟩) (by assumption) ?_
                    case h12z5x => (intro W hSw; (try dsimp only at hSw); go_simp; try with_reducible rfl)
                    try simp only [Act.put, List.setIfInBounds_toArray, List.set_cons_zero, List.set_cons_succ]
                    refine wpAnyH_take (i := 13) (by simp only [List.getElem?_toArray, List.getElem?_cons_succ, List.getElem?_cons_zero]; rfl) (by kernel_rfl) (by kernel_rfl) (by kernel_rfl) (by exact fun _ _ _ h => h) (yieldsIf_loadG (by rfl) 3 (.tmp 78) rfl ⟨g14, j2 * 2, none⟩ rfl _ (fun W hW => load_intc hW)) (by assumption) ?_
                    try simp only [Act.put, List.setIfInBounds_toArray, List.set_cons_zero, List.set_cons_succ]
                    refine wpAnyH_take (i := 14) (v := ?v14z5x) (by simp only [List.getElem?_toArray, List.getElem?_cons_succ, List.getElem?_cons_zero]; rfl) (by kernel_rfl) (by kernel_rfl) (by kernel_rfl) (by exact fun _ _ _ h => h) (Or.inl ⟨by rfl, ?h14z5x⟩) (by assumption) ?_
                    case h14z5x => (intro W hSw; (try dsimp only at hSw); go_simp; try with_reducible rfl)
                    try simp only [Act.put, List.setIfInBounds_toArray, List.set_cons_zero, List.set_cons_succ]
                    refine wpAnyH_ready (rs := [15]) (by kernel_rfl) (by simp) ?_
                    refine AllReadyH.cons (by simp only [List.getElem?_toArray, List.getElem?_cons_succ, List.getElem?_cons_zero]; rfl) (fun K hK => ?_) AllReadyH.nil
                    go_simp
                    refine (CH.out _ B9.out.drew).mono ?_
                    rintro en w10 ⟨rfl, b10⟩
                    have DOWN : Hid (Below w9.heap.size w9 w10) := Lib.hid ((Below.refl _ w9).drew.trans b10)
                    refine hK _ _ ((DOWN.out.cell G9.out).trans C9.out) (fun hH15 => ?_)
                    clear hK K b10
                    try simp only [Act.put, List.setIfInBounds_toArray, List.set_cons_zero, List.set_cons_succ]
                    refine wpAnyH_take (i := 16) (v := ?v16z5x) (by simp only [List.getElem?_toArray, List.getElem?_cons_succ, List.getElem?_cons_zero]; rfl) (by kernel_rfl) (by kernel_rfl) (by kernel_rfl) (by exact fun _ _ _ h => h) (Or.inl ⟨by rfl, ?h16z5x⟩) (by assumption) ?_
                    case h16z5x => (intro W hSw; (try dsimp only at hSw); go_simp; try with_reducible rfl)
                    try simp only [Act.put, List.setIfInBounds_toArray, List.set_cons_zero, List.set_cons_succ]
                    refine wpAnyH_take (i := 17) (v := ?v17z5x) (by simp only [List.getElem?_toArray, List.getElem?_cons_succ, List.getElem?_cons_zero]; rfl) (by kernel_rfl) (by kernel_rfl) (by kernel_rfl) (by exact fun _ _ _ h => h) (Or.inl ⟨by rfl, ?h17z5x⟩) (by assumption) ?_
                    case h17z5x => (intro W hSw; (try dsimp only at hSw); go_simp; try with_reducible rfl)
                    try simp only [Act.put, List.setIfInBounds_toArray, List.set_cons_zero, List.set_cons_succ]
                    refine wpAnyH_take (i := 18) (v := ?v18z5x) (by simp only [List.getElem?_toArray, List.getElem?_cons_succ, List.getElem?_cons_zero]; rfl) (by kernel_rfl) (by kernel_rfl) (by kernel_rfl) (by exact fun _ _ _ h => h) (Or.inl ⟨by rfl, ?h18z5x⟩) (by assumption) ?_
                    case h18z5x => (intro W hSw; (try dsimp only at hSw); go_simp; try with_reducible rfl)
                    try simp only [Act.put, List.setIfInBounds_toArray, List.set_cons_zero, List.set_cons_succ]
                    refine wpAnyH_take (i := 19) (v := ?v19z5x) (by simp only [List.getElem?_toArray, List.getElem?_cons_succ, List.getElem?_cons_zero]; rfl) (by kernel_rfl) (by kernel_rfl) (by kernel_rfl) (by exact fun _ _ _ h => h) (Or.inl ⟨by rfl, ?h19z5x⟩) (by assumption) ?_
                    case h19z5x => (intro W hSw; (try dsimp only at hSw); go_simp; try with_reducible rfl)
                    try simp only [Act.put, List.setIfInBounds_toArray, List.set_cons_zero, List.set_cons_succ]
                    refine wpAnyH_take (i := 20) (v := ?v20z5x) (by simp only [List.getElem?_toArray, List.getElem?_cons_succ, List.getElem?_cons_zero]; rfl) (by kernel_rfl) (by kernel_rfl) (by kernel_rfl) (by exact fun _ _ _ h => h) (Or.inl ⟨by rfl, ?h20z5x⟩) (by assumption) ?_
                    case h20z5x => (intro W hSw; (try dsimp only at hSw); go_simp; try with_reducible rfl)
                    try simp only [Act.put, List.setIfInBounds_toArray, List.set_cons_zero, List.set_cons_succ]
                    refine wpAnyH_take (i := 21) (v := ?v21z5x) (by simp only [List.getElem?_toArray, List.getElem?_cons_succ, List.getElem?_cons_zero]; rfl) (by kernel_rfl) (by kernel_rfl) (by kernel_rfl) (by exact fun _ _ _ h => h) (Or.inl ⟨by rfl, ?h21z5x⟩) (by assumption) ?_
                    case h21z5x => (intro W hSw; (try dsimp only at hSw); go_simp; try with_reducible rfl)
                    try simp only [Act.put, List.setIfInBounds_toArray, List.set_cons_zero, List.set_cons_succ]
                    refine wpAnyH_take (i := 22) (v := ?v22z5x) (by simp only [List.getElem?_toArray, List.getElem?_cons_succ, List.getElem?_cons_zero]; rfl) (by kernel_rfl) (by kernel_rfl) (by kernel_rfl) (by exact fun _ _ _ h => h) (Or.inl ⟨by rfl, ?h22z5x⟩) (by assumption) ?_
                    case h22z5x => (intro W hSw; (try dsimp only at hSw); go_simp; try with_reducible rfl)
                    try simp only [Act.put, List.setIfInBounds_toArray, List.set_cons_zero, List.set_cons_succ]
                    refine wpAnyH_take (i := 23) (v := ?v23z5x) (by simp only [List.getElem?_toArray, List.getElem?_cons_succ, List.getElem?_cons_zero]; rfl) (by kernel_rfl) (by kernel_rfl) (by kernel_rfl) (by exact fun _ _ _ h => h) (Or.inl ⟨by rfl, ?h23z5x⟩) (by assumption) ?_
                    case h23z5x => (intro W hSw; (try dsimp only at hSw); go_simp; try with_reducible rfl)
                    try simp only [Act.put, List.setIfInBounds_toArray, List.set_cons_zero, List.set_cons_succ]
                    refine wpAnyH_take (i := 24) (by simp only [List.getElem?_toArray, List.getElem?_cons_succ, List.getElem?_cons_zero]; rfl) (by kernel_rfl) (by kernel_rfl) (by kernel_rfl) (by exact fun _ _ _ h => h) (yieldsIf_loadG (by rfl) 3 (.tmp 89) rfl ⟨g14, j2 * 2, none⟩ rfl _ (fun W hW => load_intc hW)) (by assumption) ?_
                    try simp only [Act.put, List.setIfInBounds_toArray, List.set_cons_zero, List.set_cons_succ]
                    refine wpAnyH_take (i := 25) (v := ?v25z5x) (by simp only [List.getElem?_toArray, List.getElem?_cons_succ, List.getElem?_cons_zero]; rfl) (by kernel_rfl) (by kernel_rfl) (by kernel_rfl) (by exact fun _ _ _ h => h) (Or.inl ⟨by rfl, ?h25z5x⟩) (by assumption) ?_
                    case h25z5x => (intro W hSw; (try dsimp only at hSw); go_simp; try with_reducible rfl)
                    try simp only [Act.put, List.setIfInBounds_toArray, List.set_cons_zero, List.set_cons_succ]
                    refine wpAnyH_take (i := 26) (v := ?v26z5x) (by simp only [List.getElem?_toArray, List.getElem?_cons_succ, List.getElem?_cons_zero]; rfl) (by kernel_rfl) (by kernel_rfl) (by kernel_rfl) (by exact fun _ _ _ h => h) (Or.inl ⟨by rfl, ?h26z5x⟩) (by assumption) ?_
                    case h26z5x => (intro W hSw; (try dsimp only at hSw); go_simp; try with_reducible rfl)
                    try simp only [Act.put, List.setIfInBounds_toArray, List.set_cons_zero, List.set_cons_succ]
                    refine wpAnyH_take (i := 27) (v := ?v27z5x) (by simp only [List.getElem?_toArray, List.getElem?_cons_succ, List.getElem?_cons_zero]; rfl) (by kernel_rfl) (by kernel_rfl) (by kernel_rfl) (by exact fun _ _ _ h => h) (Or.inl ⟨by rfl, ?h27z5x⟩) (by assumption) ?_
                    case h27z5x => (intro W hSw; (try dsimp only at hSw); go_simp; try with_reducible rfl)
                    try simp only [Act.put, List.setIfInBounds_toArray, List.set_cons_zero, List.set_cons_succ]
                    refine wpAnyH_take (i := 28) (v := ?v28z5x) (by simp only [List.getElem?_toArray, List.getElem?_cons_succ, List.getElem?_cons_zero]; rfl) (by kernel_rfl) (by kernel_rfl) (by kernel_rfl) (by exact fun _ _ _ h => h) (Or.inl ⟨by rfl, ?h28z5x⟩) (by assumption) ?_
                    case h28z5x => (intro W hSw; (try dsimp only at hSw); go_simp; try with_reducible rfl)
                    try simp only [Act.put, List.setIfInBounds_toArray, List.set_cons_zero, List.set_cons_succ]
                    refine wpAnyH_take (i := 29) (v := ?v29z5x) (by simp only [List.getElem?_toArray, List.getElem?_cons_succ, List.getElem?_cons_zero]; rfl) (by kernel_rfl) (by kernel_rfl) (by kernel_rfl) (by exact fun _ _ _ h => h) (Or.inl ⟨by rfl, ?h29z5x⟩) (by assumption) ?_
                    case h29z5x => (intro W hSw; (try dsimp only at hSw); go_simp; try with_reducible rfl)
                    try simp only [Act.put, List.setIfInBounds_toArray, List.set_cons_zero, List.set_cons_succ]
                    refine wpAnyH_done (by kernel_rfl) ?_ _
                    have CMz : Hid (∀ W, Below w5.heap.size w5 W → PRow W w5.heap.size (.slice (some ⟨g14, 0, none⟩) k c') (l.set j2 ⟨z, some ⟨wr.heap.size, 0, none⟩, sz, sz, zs⟩) → Calls Try.prog 24 #[.pointer (some ⟨g, 0, none⟩), .slice (some ⟨g14, 0, none⟩) k c'] W fun en W' => en = .returned (.int .i64 0) ∧ ∃ p' j' u' V' H', UpJ Z w W' g gd gp 140 p' j' ∧ SJ p' 140 V' j' 2 u' r H') := Lib.hid (fun W hb hp => by
                      have q := CM.out W z hb hp ZB.out
                      rw [BE.out, if_pos rfl] at q
                      exact q)
                    go_wp2_with (first
                      | (go_at_call 24; refine (CMz.out _ (B9.out.trans (DOWN.out.mono B9.out.size)) (P9.out.below DOWN.out)).mono ?_; rintro e wa ⟨rfl, p', j', u', V', H', ua, sa⟩
                         have UA := Lib.hid ua
                         have SA := Lib.hid sa
                         clear ua sa)
                      | (go_at_call 29; refine (turn_up UA.out SA.out).mono ?_; rintro e wb ⟨rfl, rfl⟩))
                    go_ret
                    exact ⟨rfl, UA.out.bel⟩
              · have hd3 : ((sz : Int) != 512) = true := by rw [bne_iff_ne]; omega
                have BE : Hid (boE z hm j2 sz r = 9) := Lib.hid (by unfold boE; rw [if_neg hnb, if_pos (by omega)])
                clear hkk hr57 hnb
                refine wp_region_held_drew (S := fun W => W.cell? ⟨g14, j2 * 2, none⟩ = some (.int .i64 z)) (by kernel_rfl) C9.out (fun hHeld => ?_)
                refine wpAnyH_take (i := 0) (v := ?v0z6x) (by simp only [List.getElem?_toArray, List.getElem?_cons_succ, List.getElem?_cons_zero]; rfl) (by kernel_rfl) (by kernel_rfl) (by kernel_rfl) (by exact fun _ _ _ h => h) (Or.inl ⟨by rfl, ?h0z6x⟩) (by assumption) ?_
                case h0z6x => (intro W hSw; (try dsimp only at hSw); go_simp; try with_reducible rfl)
                try simp only [Act.put, List.setIfInBounds_toArray, List.set_cons_zero, List.set_cons_succ]
                refine wpAnyH_take (i := 1) (v := ?v1z6x) (by simp only [List.getElem?_toArray, List.getElem?_cons_succ, List.getElem?_cons_zero]; rfl) (by kernel_rfl) (by kernel_rfl) (by kernel_rfl) (by exact fun _ _ _ h => h) (Or.inl ⟨by rfl, ?h1z6x⟩) (by assumption) ?_
                case h1z6x => (intro W hSw; (try dsimp only at hSw); go_simp; try with_reducible rfl)
                try simp only [Act.put, List.setIfInBounds_toArray, List.set_cons_zero, List.set_cons_succ]
                refine wpAnyH_take (i := 2) (v := ?v2z6x) (by simp only [List.getElem?_toArray, List.getElem?_cons_succ, List.getElem?_cons_zero]; rfl) (by kernel_rfl) (by kernel_rfl) (by kernel_rfl) (by exact fun _ _ _ h => h) (Or.inl ⟨by rfl, ?h2z6x⟩) (by assumption) ?_
                case h2z6x => (intro W hSw; (try dsimp only at hSw); go_simp; try with_reducible rfl)
                try simp only [Act.put, List.setIfInBounds_toArray, List.set_cons_zero, List.set_cons_succ]
                refine wpAnyH_take (i := 3) (v := ?v3z6x) (by simp only [List.getElem?_toArray, List.getElem?_cons_succ, List.getElem?_cons_zero]; rfl) (by kernel_rfl) (by kernel_rfl) (by kernel_rfl) (by exact fun _ _ _ h => h) (Or.inl ⟨by rfl, ?h3z6x⟩) (by assumption) ?_
                case h3z6x => (intro W hSw; (try dsimp only at hSw); go_simp; try with_reducible rfl)
                try simp only [Act.put, List.setIfInBounds_toArray, List.set_cons_zero, List.set_cons_succ]
                refine wpAnyH_take (i := 4) (v := ?v4z6x) (by simp only [List.getElem?_toArray, List.getElem?_cons_succ, List.getElem?_cons_zero]; rfl) (by kernel_rfl) (by kernel_rfl) (by kernel_rfl) (by exact fun _ _ _ h => h) (Or.inl ⟨by rfl, ?h4z6x⟩) (by assumption) ?_
                case h4z6x => (intro W hSw; (try dsimp only at hSw); go_simp; try with_reducible rfl)
                try simp only [Act.put, List.setIfInBounds_toArray, List.set_cons_zero, List.set_cons_succ]
                refine wpAnyH_take (i := 5) (by simp only [List.getElem?_toArray, List.getElem?_cons_succ, List.getElem?_cons_zero]; rfl) (by kernel_rfl) (by kernel_rfl) (by kernel_rfl) (by exact fun _ _ _ h => h) (yieldsIf_loadG (by rfl) 3 (.tmp 70) rfl ⟨g14, j2 * 2, none⟩ rfl _ (fun W hW => load_intc hW)) (by assumption) ?_
                try simp only [Act.put, List.setIfInBounds_toArray, List.set_cons_zero, List.set_cons_succ]
                refine wpAnyH_take (i := 6) (v := ?v6z6x) (by simp only [List.getElem?_toArray, List.getElem?_cons_succ, List.getElem?_cons_zero]; rfl) (by kernel_rfl) (by kernel_rfl) (by kernel_rfl) (by exact fun _ _ _ h => h) (Or.inl ⟨by rfl, ?h6z6x⟩) (by assumption) ?_
                case h6z6x => (intro W hSw; (try dsimp only at hSw); go_simp; try with_reducible rfl)
                try simp only [Act.put, List.setIfInBounds_toArray, List.set_cons_zero, List.set_cons_succ]
                refine wpAnyH_take (i := 7) (v := ?v7z6x) (by simp only [List.getElem?_toArray, List.getElem?_cons_succ, List.getElem?_cons_zero]; rfl) (by kernel_rfl) (by kernel_rfl) (by kernel_rfl) (by exact fun _ _ _ h => h) (Or.inl ⟨by rfl, ?h7z6x⟩) (by assumption) ?_
                case h7z6x => (intro W hSw; (try dsimp only at hSw); go_simp; try with_reducible rfl)
                try simp only [Act.put, List.setIfInBounds_toArray, List.set_cons_zero, List.set_cons_succ]
                refine wpAnyH_take (i := 8) (v := ?v8z6x) (by simp only [List.getElem?_toArray, List.getElem?_cons_succ, List.getElem?_cons_zero]; rfl) (by kernel_rfl) (by kernel_rfl) (by kernel_rfl) (by exact fun _ _ _ h => h) (Or.inl ⟨by rfl, ?h8z6x⟩) (by assumption) ?_
                case h8z6x => (intro W hSw; (try dsimp only at hSw); go_simp; try with_reducible rfl)
                try simp only [Act.put, List.setIfInBounds_toArray, List.set_cons_zero, List.set_cons_succ]
                refine wpAnyH_take (i := 9) (v := ?v9z6x) (by simp only [List.getElem?_toArray, List.getElem?_cons_succ, List.getElem?_cons_zero]; rfl) (by kernel_rfl) (by kernel_rfl) (by kernel_rfl) (by exact fun _ _ _ h => h) (Or.inl ⟨by rfl, ?h9z6x⟩) (by assumption) ?_
                case h9z6x => (intro W hSw; (try dsimp only at hSw); go_simp; try with_reducible rfl)
                try simp only [Act.put, List.setIfInBounds_toArray, List.set_cons_zero, List.set_cons_succ]
                refine wpAnyH_take (i := 10) (v := ?v10z6x) (by simp only [List.getElem?_toArray, List.getElem?_cons_succ, List.getElem?_cons_zero]; rfl) (by kernel_rfl) (by kernel_rfl) (by kernel_rfl) (by exact fun _ _ _ h => h) (Or.inl ⟨by rfl, ?h10z6x⟩) (by assumption) ?_
                case h10z6x => (intro W hSw; (try dsimp only at hSw); go_simp; try with_reducible rfl)
                try simp only [Act.put, List.setIfInBounds_toArray, List.set_cons_zero, List.set_cons_succ]
                refine wpAnyH_take (i := 11) (v := ?v11z6x) (by simp only [List.getElem?_toArray, List.getElem?_cons_succ, List.getElem?_cons_zero]; rfl) (by kernel_rfl) (by kernel_rfl) (by kernel_rfl) (by exact fun _ _ _ h => h) (Or.inl ⟨by rfl, ?h11z6x⟩) (by assumption) ?_
                case h11z6x => (intro W hSw; (try dsimp only at hSw); go_simp; try with_reducible rfl)
                try simp only [Act.put, List.setIfInBounds_toArray, List.set_cons_zero, List.set_cons_succ]
                refine wpAnyH_take (i := 12) (v := ?v12z6x) (by simp only [List.getElem?_toArray, List.getElem?_cons_succ, List.getElem?_cons_zero]; rfl) (by kernel_rfl) (by kernel_rfl) (by kernel_rfl) (by exact fun _ _ _ h => h) (Or.inl ⟨by rfl, ?h12z6x⟩) (by assumption) ?_
                case h12z6x => (intro W hSw; (try dsimp only at hSw); go_simp; try with_reducible rfl)
                try simp only [Act.put, List.setIfInBounds_toArray, List.set_cons_zero, List.set_cons_succ]
                refine wpAnyH_take (i := 13) (by simp only [List.getElem?_toArray, List.getElem?_cons_succ, List.getElem?_cons_zero]; rfl) (by kernel_rfl) (by kernel_rfl) (by kernel_rfl) (by exact fun _ _ _ h => h) (yieldsIf_loadG (by rfl) 3 (.tmp 78) rfl ⟨g14, j2 * 2, none⟩ rfl _ (fun W hW => load_intc hW)) (by assumption) ?_
                try simp only [Act.put, List.setIfInBounds_toArray, List.set_cons_zero, List.set_cons_succ]
                refine wpAnyH_take (i := 14) (v := ?v14z6x) (by simp only [List.getElem?_toArray, List.getElem?_cons_succ, List.getElem?_cons_zero]; rfl) (by kernel_rfl) (by kernel_rfl) (by kernel_rfl) (by exact fun _ _ _ h => h) (Or.inl ⟨by rfl, ?h14z6x⟩) (by assumption) ?_
                case h14z6x => (intro W hSw; (try dsimp only at hSw); go_simp; try with_reducible rfl)
                try simp only [Act.put, List.setIfInBounds_toArray, List.set_cons_zero, List.set_cons_succ]
                refine wpAnyH_ready (rs := [15]) (by kernel_rfl) (by simp) ?_
                refine AllReadyH.cons (by simp only [List.getElem?_toArray, List.getElem?_cons_succ, List.getElem?_cons_zero]; rfl) (fun K hK => ?_) AllReadyH.nil
                go_simp
                refine (CH.out _ B9.out.drew).mono ?_
                rintro en w10 ⟨rfl, b10⟩
                have DOWN : Hid (Below w9.heap.size w9 w10) := Lib.hid ((Below.refl _ w9).drew.trans b10)
                refine hK _ _ ((DOWN.out.cell G9.out).trans C9.out) (fun hH15 => ?_)
                clear hK K b10
                try simp only [Act.put, List.setIfInBounds_toArray, List.set_cons_zero, List.set_cons_succ]
                refine wpAnyH_take (i := 16) (v := ?v16z6x) (by simp only [List.getElem?_toArray, List.getElem?_cons_succ, List.getElem?_cons_zero]; rfl) (by kernel_rfl) (by kernel_rfl) (by kernel_rfl) (by exact fun _ _ _ h => h) (Or.inl ⟨by rfl, ?h16z6x⟩) (by assumption) ?_
                case h16z6x => (intro W hSw; (try dsimp only at hSw); go_simp; try with_reducible rfl)
                try simp only [Act.put, List.setIfInBounds_toArray, List.set_cons_zero, List.set_cons_succ]
                refine wpAnyH_take (i := 17) (v := ?v17z6x) (by simp only [List.getElem?_toArray, List.getElem?_cons_succ, List.getElem?_cons_zero]; rfl) (by kernel_rfl) (by kernel_rfl) (by kernel_rfl) (by exact fun _ _ _ h => h) (Or.inl ⟨by rfl, ?h17z6x⟩) (by assumption) ?_
                case h17z6x => (intro W hSw; (try dsimp only at hSw); go_simp; try with_reducible rfl)
                try simp only [Act.put, List.setIfInBounds_toArray, List.set_cons_zero, List.set_cons_succ]
                refine wpAnyH_take (i := 18) (v := ?v18z6x) (by simp only [List.getElem?_toArray, List.getElem?_cons_succ, List.getElem?_cons_zero]; rfl) (by kernel_rfl) (by kernel_rfl) (by kernel_rfl) (by exact fun _ _ _ h => h) (Or.inl ⟨by rfl, ?h18z6x⟩) (by assumption) ?_
                case h18z6x => (intro W hSw; (try dsimp only at hSw); go_simp; try with_reducible rfl)
                try simp only [Act.put, List.setIfInBounds_toArray, List.set_cons_zero, List.set_cons_succ]
                refine wpAnyH_take (i := 19) (v := ?v19z6x) (by simp only [List.getElem?_toArray, List.getElem?_cons_succ, List.getElem?_cons_zero]; rfl) (by kernel_rfl) (by kernel_rfl) (by kernel_rfl) (by exact fun _ _ _ h => h) (Or.inl ⟨by rfl, ?h19z6x⟩) (by assumption) ?_
                case h19z6x => (intro W hSw; (try dsimp only at hSw); go_simp; try with_reducible rfl)
                try simp only [Act.put, List.setIfInBounds_toArray, List.set_cons_zero, List.set_cons_succ]
                refine wpAnyH_take (i := 20) (v := ?v20z6x) (by simp only [List.getElem?_toArray, List.getElem?_cons_succ, List.getElem?_cons_zero]; rfl) (by kernel_rfl) (by kernel_rfl) (by kernel_rfl) (by exact fun _ _ _ h => h) (Or.inl ⟨by rfl, ?h20z6x⟩) (by assumption) ?_
                case h20z6x => (intro W hSw; (try dsimp only at hSw); go_simp; try with_reducible rfl)
                try simp only [Act.put, List.setIfInBounds_toArray, List.set_cons_zero, List.set_cons_succ]
                refine wpAnyH_take (i := 21) (v := ?v21z6x) (by simp only [List.getElem?_toArray, List.getElem?_cons_succ, List.getElem?_cons_zero]; rfl) (by kernel_rfl) (by kernel_rfl) (by kernel_rfl) (by exact fun _ _ _ h => h) (Or.inl ⟨by rfl, ?h21z6x⟩) (by assumption) ?_
                case h21z6x => (intro W hSw; (try dsimp only at hSw); go_simp; try with_reducible rfl)
                try simp only [Act.put, List.setIfInBounds_toArray, List.set_cons_zero, List.set_cons_succ]
                refine wpAnyH_take (i := 22) (v := ?v22z6x) (by simp only [List.getElem?_toArray, List.getElem?_cons_succ, List.getElem?_cons_zero]; rfl) (by kernel_rfl) (by kernel_rfl) (by kernel_rfl) (by exact fun _ _ _ h => h) (Or.inl ⟨by rfl, ?h22z6x⟩) (by assumption) ?_
                case h22z6x => (intro W hSw; (try dsimp only at hSw); go_simp; try with_reducible rfl)
                try simp only [Act.put, List.setIfInBounds_toArray, List.set_cons_zero, List.set_cons_succ]
                refine wpAnyH_take (i := 23) (v := ?v23z6x) (by simp only [List.getElem?_toArray, List.getElem?_cons_succ, List.getElem?_cons_zero]; rfl) (by kernel_rfl) (by kernel_rfl) (by kernel_rfl) (by exact fun _ _ _ h => h) (Or.inl ⟨by rfl, ?h23z6x⟩) (by assumption) ?_
                case h23z6x => (intro W hSw; (try dsimp only at hSw); go_simp; try with_reducible rfl)
                try simp only [Act.put, List.setIfInBounds_toArray, List.set_cons_zero, List.set_cons_succ]
                refine wpAnyH_take (i := 24) (by simp only [List.getElem?_toArray, List.getElem?_cons_succ, List.getElem?_cons_zero]; rfl) (by kernel_rfl) (by kernel_rfl) (by kernel_rfl) (by exact fun _ _ _ h => h) (yieldsIf_loadG (by rfl) 3 (.tmp 89) rfl ⟨g14, j2 * 2, none⟩ rfl _ (fun W hW => load_intc hW)) (by assumption) ?_
                try simp only [Act.put, List.setIfInBounds_toArray, List.set_cons_zero, List.set_cons_succ]
                refine wpAnyH_take (i := 25) (v := ?v25z6x) (by simp only [List.getElem?_toArray, List.getElem?_cons_succ, List.getElem?_cons_zero]; rfl) (by kernel_rfl) (by kernel_rfl) (by kernel_rfl) (by exact fun _ _ _ h => h) (Or.inl ⟨by rfl, ?h25z6x⟩) (by assumption) ?_
                case h25z6x => (intro W hSw; (try dsimp only at hSw); go_simp; try with_reducible rfl)
                try simp only [Act.put, List.setIfInBounds_toArray, List.set_cons_zero, List.set_cons_succ]
                refine wpAnyH_take (i := 26) (v := ?v26z6x) (by simp only [List.getElem?_toArray, List.getElem?_cons_succ, List.getElem?_cons_zero]; rfl) (by kernel_rfl) (by kernel_rfl) (by kernel_rfl) (by exact fun _ _ _ h => h) (Or.inl ⟨by rfl, ?h26z6x⟩) (by assumption) ?_
                case h26z6x => (intro W hSw; (try dsimp only at hSw); go_simp; try with_reducible rfl)
                try simp only [Act.put, List.setIfInBounds_toArray, List.set_cons_zero, List.set_cons_succ]
                refine wpAnyH_take (i := 27) (v := ?v27z6x) (by simp only [List.getElem?_toArray, List.getElem?_cons_succ, List.getElem?_cons_zero]; rfl) (by kernel_rfl) (by kernel_rfl) (by kernel_rfl) (by exact fun _ _ _ h => h) (Or.inl ⟨by rfl, ?h27z6x⟩) (by assumption) ?_
                case h27z6x => (intro W hSw; (try dsimp only at hSw); go_simp; try with_reducible rfl)
                try simp only [Act.put, List.setIfInBounds_toArray, List.set_cons_zero, List.set_cons_succ]
                refine wpAnyH_take (i := 28) (v := ?v28z6x) (by simp only [List.getElem?_toArray, List.getElem?_cons_succ, List.getElem?_cons_zero]; rfl) (by kernel_rfl) (by kernel_rfl) (by kernel_rfl) (by exact fun _ _ _ h => h) (Or.inl ⟨by rfl, ?h28z6x⟩) (by assumption) ?_
                case h28z6x => (intro W hSw; (try dsimp only at hSw); go_simp; try with_reducible rfl)
                try simp only [Act.put, List.setIfInBounds_toArray, List.set_cons_zero, List.set_cons_succ]
                refine wpAnyH_take (i := 29) (v := ?v29z6x) (by simp only [List.getElem?_toArray, List.getElem?_cons_succ, List.getElem?_cons_zero]; rfl) (by kernel_rfl) (by kernel_rfl) (by kernel_rfl) (by exact fun _ _ _ h => h) (Or.inl ⟨by rfl, ?h29z6x⟩) (by assumption) ?_
                case h29z6x => (intro W hSw; (try dsimp only at hSw); go_simp; try with_reducible rfl)
                try simp only [Act.put, List.setIfInBounds_toArray, List.set_cons_zero, List.set_cons_succ]
                refine wpAnyH_done (by kernel_rfl) ?_ _
                have CMz : Hid (∀ W, Below w5.heap.size w5 W → PRow W w5.heap.size (.slice (some ⟨g14, 0, none⟩) k c') (l.set j2 ⟨z, some ⟨wr.heap.size, 0, none⟩, sz, sz, zs⟩) → Calls Try.prog 24 #[.pointer (some ⟨g, 0, none⟩), .slice (some ⟨g14, 0, none⟩) k c'] W fun en W' => en = .returned (.int .i64 9) ∧ ∃ p' j' u' V' H', UpJ Z w W' g gd gp 140 p' j' ∧ SJ p' 140 V' j' 1 u' r H') := Lib.hid (fun W hb hp => by
                  have q := CM.out W z hb hp ZB.out
                  rw [BE.out, if_neg (by decide)] at q
                  exact q)
                go_wp2_with (first
                  | (go_at_call 24; refine (CMz.out _ (B9.out.trans (DOWN.out.mono B9.out.size)) (P9.out.below DOWN.out)).mono ?_; rintro e wa ⟨rfl, p', j', u', V', H', ua, sa⟩
                     have UA := Lib.hid ua
                     have SA := Lib.hid sa
                     clear ua sa)
                  | (go_at_call 29; refine (turn_up UA.out SA.out).mono ?_; rintro e wb ⟨rfl, rfl⟩))
                go_ret
                exact ⟨rfl, UA.out.bel⟩
      | false =>
        go_upto_region 18 with fail
        obtain ⟨w9, hw9⟩ : ∃ w9, w9 = w8 := ⟨_, rfl⟩
        obtain ⟨z, hz⟩ : ∃ z : Int, z = a2 := ⟨_, rfl⟩
        have P9 : Hid (PRow w9 w5.heap.size (.slice (some ⟨g14, 0, none⟩) k c') (l.set j2 ⟨z, some ⟨wr.heap.size, 0, none⟩, sz, sz, zs⟩)) := Lib.hid (by rw [hz, hw9]; exact P8'.out)
        have B9 : Hid (Below w5.heap.size w5 w9) := Lib.hid (by rw [hw9]; exact B8.out)
        have ZB : Hid (-9223372036854775808 ≤ z ∧ z ≤ 9223372036854775807) := Lib.hid (by rw [hz]; exact A2.out)
        rw [← hw9]
        clear hw9 c80 f80 hz
        have LJ9 : (l.set j2 ⟨z, some ⟨wr.heap.size, 0, none⟩, sz, sz, zs⟩)[j2]? = some ⟨z, some ⟨wr.heap.size, 0, none⟩, sz, sz, zs⟩ := List.getElem?_set_self HD8
        have C9 : Hid (w9.cell? ⟨g14, j2 * 2, none⟩ = some (.int .i64 z)) := Lib.hid (P9.out.cells LJ9).1
        have hwj : IntKind.i64.wrap (j2 : Int) = (j2 : Int) := by rw [IntKind.wrap_i64]; omega
        have hj0 : (0 : Int) ≤ (j2 : Int) := by omega
        have c9 := C9.out
        have G9 : Hid (g14 < w9.heap.size) := Lib.hid (by obtain ⟨g', cur', e', _, hg', _⟩ := P9.out.row (by omega); simp only [Option.some.injEq, Addr.mk.injEq, and_true] at e'; subst e'; exact (Array.getElem?_eq_some_iff.1 hg').1)
        have hzb := ZB.out
        have hr57 := HR.out
        have hkk := HN.out
        have hj6 : j2 < 46 := by omega
        clear LJ9
        by_cases hz0 : z < 0
        · have hd0 : decide (z < 0) = true := decide_eq_true hz0
          have BE : Hid (boE z hm j2 sz r = 1) := Lib.hid (by unfold boE; rw [if_pos (.inl hz0)])
          clear hkk hr57
          go_quiet (fail)
          have DOWN : Hid (Below w9.heap.size w9 (w9.drewN nq)) := Lib.hid ⟨rfl, rfl, rfl, Nat.le_refl _, fun _ _ => rfl⟩
          have CMz : Hid (∀ W, Below w5.heap.size w5 W → PRow W w5.heap.size (.slice (some ⟨g14, 0, none⟩) k c') (l.set j2 ⟨z, some ⟨wr.heap.size, 0, none⟩, sz, sz, zs⟩) → Calls Try.prog 24 #[.pointer (some ⟨g, 0, none⟩), .slice (some ⟨g14, 0, none⟩) k c'] W fun en W' => en = .returned (.int .i64 1) ∧ ∃ p' j' u' V' H', UpJ Z w W' g gd gp 140 p' j' ∧ SJ p' 140 V' j' 1 u' r H') := Lib.hid (fun W hb hp => by
            have q := CM.out W z hb hp ZB.out
            rw [BE.out, if_neg (by decide)] at q
            exact q)
          go_wp2_with (first
            | (go_at_call 24; refine (CMz.out _ (B9.out.trans (DOWN.out.mono B9.out.size)) (P9.out.below DOWN.out)).mono ?_; rintro e wa ⟨rfl, p', j', u', V', H', ua, sa⟩
               have UA := Lib.hid ua
               have SA := Lib.hid sa
               clear ua sa)
            | (go_at_call 29; refine (turn_up UA.out SA.out).mono ?_; rintro e wb ⟨rfl, rfl⟩))
          go_ret
          exact ⟨rfl, UA.out.bel⟩
        · have hd0 : decide (z < 0) = false := decide_eq_false hz0
          by_cases hb1 : (hm : Int) ≤ z
          · have hd1 : decide ((hm : Int) ≤ z) = true := decide_eq_true hb1
            have BE : Hid (boE z hm j2 sz r = 1) := Lib.hid (by unfold boE; rw [if_pos (.inr (.inl hb1))])
            clear hkk hr57
            refine wp_region_held_drew (S := fun W => W.cell? ⟨g14, j2 * 2, none⟩ = some (.int .i64 z)) (by kernel_rfl) C9.out (fun hHeld => ?_)
            refine wpAnyH_take (i := 0) (v := ?v0z101x) (by simp only [List.getElem?_toArray, List.getElem?_cons_succ, List.getElem?_cons_zero]; rfl) (by kernel_rfl) (by kernel_rfl) (by kernel_rfl) (by exact fun _ _ _ h => h) (Or.inl ⟨by rfl, ?h0z101x⟩) (by assumption) ?_
            case h0z101x => (intro W hSw; (try dsimp only at hSw); go_simp; try with_reducible rfl)
            try simp only [Act.put, List.setIfInBounds_toArray, List.set_cons_zero, List.set_cons_succ]
            refine wpAnyH_take (i := 1) (v := ?v1z101x) (by simp only [List.getElem?_toArray, List.getElem?_cons_succ, List.getElem?_cons_zero]; rfl) (by kernel_rfl) (by kernel_rfl) (by kernel_rfl) (by exact fun _ _ _ h => h) (Or.inl ⟨by rfl, ?h1z101x⟩) (by assumption) ?_
            case h1z101x => (intro W hSw; (try dsimp only at hSw); go_simp; try with_reducible rfl)
            try simp only [Act.put, List.setIfInBounds_toArray, List.set_cons_zero, List.set_cons_succ]
            refine wpAnyH_take (i := 2) (v := ?v2z101x) (by simp only [List.getElem?_toArray, List.getElem?_cons_succ, List.getElem?_cons_zero]; rfl) (by kernel_rfl) (by kernel_rfl) (by kernel_rfl) (by exact fun _ _ _ h => h) (Or.inl ⟨by rfl, ?h2z101x⟩) (by assumption) ?_
            case h2z101x => (intro W hSw; (try dsimp only at hSw); go_simp; try with_reducible rfl)
            try simp only [Act.put, List.setIfInBounds_toArray, List.set_cons_zero, List.set_cons_succ]
            refine wpAnyH_take (i := 3) (v := ?v3z101x) (by simp only [List.getElem?_toArray, List.getElem?_cons_succ, List.getElem?_cons_zero]; rfl) (by kernel_rfl) (by kernel_rfl) (by kernel_rfl) (by exact fun _ _ _ h => h) (Or.inl ⟨by rfl, ?h3z101x⟩) (by assumption) ?_
            case h3z101x => (intro W hSw; (try dsimp only at hSw); go_simp; try with_reducible rfl)
            try simp only [Act.put, List.setIfInBounds_toArray, List.set_cons_zero, List.set_cons_succ]
            refine wpAnyH_take (i := 4) (v := ?v4z101x) (by simp only [List.getElem?_toArray, List.getElem?_cons_succ, List.getElem?_cons_zero]; rfl) (by kernel_rfl) (by kernel_rfl) (by kernel_rfl) (by exact fun _ _ _ h => h) (Or.inl ⟨by rfl, ?h4z101x⟩) (by assumption) ?_
            case h4z101x => (intro W hSw; (try dsimp only at hSw); go_simp; try with_reducible rfl)
            try simp only [Act.put, List.setIfInBounds_toArray, List.set_cons_zero, List.set_cons_succ]
            refine wpAnyH_take (i := 5) (by simp only [List.getElem?_toArray, List.getElem?_cons_succ, List.getElem?_cons_zero]; rfl) (by kernel_rfl) (by kernel_rfl) (by kernel_rfl) (by exact fun _ _ _ h => h) (yieldsIf_loadG (by rfl) 3 (.tmp 70) rfl ⟨g14, j2 * 2, none⟩ rfl _ (fun W hW => load_intc hW)) (by assumption) ?_
            try simp only [Act.put, List.setIfInBounds_toArray, List.set_cons_zero, List.set_cons_succ]
            refine wpAnyH_take (i := 6) (v := ?v6z101x) (by simp only [List.getElem?_toArray, List.getElem?_cons_succ, List.getElem?_cons_zero]; rfl) (by kernel_rfl) (by kernel_rfl) (by kernel_rfl) (by exact fun _ _ _ h => h) (Or.inl ⟨by rfl, ?h6z101x⟩) (by assumption) ?_
            case h6z101x => (intro W hSw; (try dsimp only at hSw); go_simp; try with_reducible rfl)
            try simp only [Act.put, List.setIfInBounds_toArray, List.set_cons_zero, List.set_cons_succ]
            refine wpAnyH_take (i := 7) (v := ?v7z101x) (by simp only [List.getElem?_toArray, List.getElem?_cons_succ, List.getElem?_cons_zero]; rfl) (by kernel_rfl) (by kernel_rfl) (by kernel_rfl) (by exact fun _ _ _ h => h) (Or.inl ⟨by rfl, ?h7z101x⟩) (by assumption) ?_
            case h7z101x => (intro W hSw; (try dsimp only at hSw); go_simp; try with_reducible rfl)
            try simp only [Act.put, List.setIfInBounds_toArray, List.set_cons_zero, List.set_cons_succ]
            refine wpAnyH_take (i := 8) (v := ?v8z101x) (by simp only [List.getElem?_toArray, List.getElem?_cons_succ, List.getElem?_cons_zero]; rfl) (by kernel_rfl) (by kernel_rfl) (by kernel_rfl) (by exact fun _ _ _ h => h) (Or.inl ⟨by rfl, ?h8z101x⟩) (by assumption) ?_
            case h8z101x => (intro W hSw; (try dsimp only at hSw); go_simp; try with_reducible rfl)
            try simp only [Act.put, List.setIfInBounds_toArray, List.set_cons_zero, List.set_cons_succ]
            refine wpAnyH_take (i := 9) (v := ?v9z101x) (by simp only [List.getElem?_toArray, List.getElem?_cons_succ, List.getElem?_cons_zero]; rfl) (by kernel_rfl) (by kernel_rfl) (by kernel_rfl) (by exact fun _ _ _ h => h) (Or.inl ⟨by rfl, ?h9z101x⟩) (by assumption) ?_
            case h9z101x => (intro W hSw; (try dsimp only at hSw); go_simp; try with_reducible rfl)
            try simp only [Act.put, List.setIfInBounds_toArray, List.set_cons_zero, List.set_cons_succ]
            refine wpAnyH_take (i := 10) (v := ?v10z101x) (by simp only [List.getElem?_toArray, List.getElem?_cons_succ, List.getElem?_cons_zero]; rfl) (by kernel_rfl) (by kernel_rfl) (by kernel_rfl) (by exact fun _ _ _ h => h) (Or.inl ⟨by rfl, ?h10z101x⟩) (by assumption) ?_
            case h10z101x => (intro W hSw; (try dsimp only at hSw); go_simp; try with_reducible rfl)
            try simp only [Act.put, List.setIfInBounds_toArray, List.set_cons_zero, List.set_cons_succ]
            refine wpAnyH_take (i := 11) (v := ?v11z101x) (by simp only [List.getElem?_toArray, List.getElem?_cons_succ, List.getElem?_cons_zero]; rfl) (by kernel_rfl) (by kernel_rfl) (by kernel_rfl) (by exact fun _ _ _ h => h) (Or.inl ⟨by rfl, ?h11z101x⟩) (by assumption) ?_
            case h11z101x => (intro W hSw; (try dsimp only at hSw); go_simp; try with_reducible rfl)
            try simp only [Act.put, List.setIfInBounds_toArray, List.set_cons_zero, List.set_cons_succ]
            refine wpAnyH_take (i := 12) (v := ?v12z101x) (by simp only [List.getElem?_toArray, List.getElem?_cons_succ, List.getElem?_cons_zero]; rfl) (by kernel_rfl) (by kernel_rfl) (by kernel_rfl) (by exact fun _ _ _ h => h) (Or.inl ⟨by rfl, ?h12z101x⟩) (by assumption) ?_
            case h12z101x => (intro W hSw; (try dsimp only at hSw); go_simp; try with_reducible rfl)
            try simp only [Act.put, List.setIfInBounds_toArray, List.set_cons_zero, List.set_cons_succ]
            refine wpAnyH_take (i := 13) (by simp only [List.getElem?_toArray, List.getElem?_cons_succ, List.getElem?_cons_zero]; rfl) (by kernel_rfl) (by kernel_rfl) (by kernel_rfl) (by exact fun _ _ _ h => h) (yieldsIf_loadG (by rfl) 3 (.tmp 78) rfl ⟨g14, j2 * 2, none⟩ rfl _ (fun W hW => load_intc hW)) (by assumption) ?_
            try simp only [Act.put, List.setIfInBounds_toArray, List.set_cons_zero, List.set_cons_succ]
            refine wpAnyH_take (i := 14) (v := ?v14z101x) (by simp only [List.getElem?_toArray, List.getElem?_cons_succ, List.getElem?_cons_zero]; rfl) (by kernel_rfl) (by kernel_rfl) (by kernel_rfl) (by exact fun _ _ _ h => h) (Or.inl ⟨by rfl, ?h14z101x⟩) (by assumption) ?_
            case h14z101x => (intro W hSw; (try dsimp only at hSw); go_simp; try with_reducible rfl)
            try simp only [Act.put, List.setIfInBounds_toArray, List.set_cons_zero, List.set_cons_succ]
            refine wpAnyH_ready (rs := [15]) (by kernel_rfl) (by simp) ?_
            refine AllReadyH.cons (by simp only [List.getElem?_toArray, List.getElem?_cons_succ, List.getElem?_cons_zero]; rfl) (fun K hK => ?_) AllReadyH.nil
            go_simp
            refine (CH.out _ B9.out.drew).mono ?_
            rintro en w10 ⟨rfl, b10⟩
            have DOWN : Hid (Below w9.heap.size w9 w10) := Lib.hid ((Below.refl _ w9).drew.trans b10)
            refine hK _ _ ((DOWN.out.cell G9.out).trans C9.out) (fun hH15 => ?_)
            clear hK K b10
            try simp only [Act.put, List.setIfInBounds_toArray, List.set_cons_zero, List.set_cons_succ]
            refine wpAnyH_take (i := 16) (v := ?v16z101x) (by simp only [List.getElem?_toArray, List.getElem?_cons_succ, List.getElem?_cons_zero]; rfl) (by kernel_rfl) (by kernel_rfl) (by kernel_rfl) (by exact fun _ _ _ h => h) (Or.inl ⟨by rfl, ?h16z101x⟩) (by assumption) ?_
            case h16z101x => (intro W hSw; (try dsimp only at hSw); go_simp; try with_reducible rfl)
            try simp only [Act.put, List.setIfInBounds_toArray, List.set_cons_zero, List.set_cons_succ]
            refine wpAnyH_take (i := 17) (v := ?v17z101x) (by simp only [List.getElem?_toArray, List.getElem?_cons_succ, List.getElem?_cons_zero]; rfl) (by kernel_rfl) (by kernel_rfl) (by kernel_rfl) (by exact fun _ _ _ h => h) (Or.inl ⟨by rfl, ?h17z101x⟩) (by assumption) ?_
            case h17z101x => (intro W hSw; (try dsimp only at hSw); go_simp; try with_reducible rfl)
            try simp only [Act.put, List.setIfInBounds_toArray, List.set_cons_zero, List.set_cons_succ]
            refine wpAnyH_take (i := 18) (v := ?v18z101x) (by simp only [List.getElem?_toArray, List.getElem?_cons_succ, List.getElem?_cons_zero]; rfl) (by kernel_rfl) (by kernel_rfl) (by kernel_rfl) (by exact fun _ _ _ h => h) (Or.inl ⟨by rfl, ?h18z101x⟩) (by assumption) ?_
            case h18z101x => (intro W hSw; (try dsimp only at hSw); go_simp; try with_reducible rfl)
            try simp only [Act.put, List.setIfInBounds_toArray, List.set_cons_zero, List.set_cons_succ]
            refine wpAnyH_take (i := 19) (v := undef) (by simp only [List.getElem?_toArray, List.getElem?_cons_succ, List.getElem?_cons_zero]; rfl) (by kernel_rfl) (by kernel_rfl) (by kernel_rfl) (by exact fun _ _ _ h => h) (Or.inr ⟨by rfl, rfl⟩) (by assumption) ?_
            try simp only [Act.put, List.setIfInBounds_toArray, List.set_cons_zero, List.set_cons_succ]
            refine wpAnyH_take (i := 20) (v := undef) (by simp only [List.getElem?_toArray, List.getElem?_cons_succ, List.getElem?_cons_zero]; rfl) (by kernel_rfl) (by kernel_rfl) (by kernel_rfl) (by exact fun _ _ _ h => h) (Or.inr ⟨by rfl, rfl⟩) (by assumption) ?_
            try simp only [Act.put, List.setIfInBounds_toArray, List.set_cons_zero, List.set_cons_succ]
            refine wpAnyH_take (i := 21) (v := undef) (by simp only [List.getElem?_toArray, List.getElem?_cons_succ, List.getElem?_cons_zero]; rfl) (by kernel_rfl) (by kernel_rfl) (by kernel_rfl) (by exact fun _ _ _ h => h) (Or.inr ⟨by rfl, rfl⟩) (by assumption) ?_
            try simp only [Act.put, List.setIfInBounds_toArray, List.set_cons_zero, List.set_cons_succ]
            refine wpAnyH_take (i := 22) (v := undef) (by simp only [List.getElem?_toArray, List.getElem?_cons_succ, List.getElem?_cons_zero]; rfl) (by kernel_rfl) (by kernel_rfl) (by kernel_rfl) (by exact fun _ _ _ h => h) (Or.inr ⟨by rfl, rfl⟩) (by assumption) ?_
            try simp only [Act.put, List.setIfInBounds_toArray, List.set_cons_zero, List.set_cons_succ]
            refine wpAnyH_take (i := 23) (v := undef) (by simp only [List.getElem?_toArray, List.getElem?_cons_succ, List.getElem?_cons_zero]; rfl) (by kernel_rfl) (by kernel_rfl) (by kernel_rfl) (by exact fun _ _ _ h => h) (Or.inr ⟨by rfl, rfl⟩) (by assumption) ?_
            try simp only [Act.put, List.setIfInBounds_toArray, List.set_cons_zero, List.set_cons_succ]
            refine wpAnyH_take (i := 24) (v := undef) (by simp only [List.getElem?_toArray, List.getElem?_cons_succ, List.getElem?_cons_zero]; rfl) (by kernel_rfl) (by kernel_rfl) (by kernel_rfl) (by exact fun _ _ _ h => h) (Or.inr ⟨by rfl, rfl⟩) (by assumption) ?_
            try simp only [Act.put, List.setIfInBounds_toArray, List.set_cons_zero, List.set_cons_succ]
            refine wpAnyH_take (i := 25) (v := undef) (by simp only [List.getElem?_toArray, List.getElem?_cons_succ, List.getElem?_cons_zero]; rfl) (by kernel_rfl) (by kernel_rfl) (by kernel_rfl) (by exact fun _ _ _ h => h) (Or.inr ⟨by rfl, rfl⟩) (by assumption) ?_
            try simp only [Act.put, List.setIfInBounds_toArray, List.set_cons_zero, List.set_cons_succ]
            refine wpAnyH_take (i := 26) (v := undef) (by simp only [List.getElem?_toArray, List.getElem?_cons_succ, List.getElem?_cons_zero]; rfl) (by kernel_rfl) (by kernel_rfl) (by kernel_rfl) (by exact fun _ _ _ h => h) (Or.inr ⟨by rfl, rfl⟩) (by assumption) ?_
            try simp only [Act.put, List.setIfInBounds_toArray, List.set_cons_zero, List.set_cons_succ]
            refine wpAnyH_take (i := 27) (v := undef) (by simp only [List.getElem?_toArray, List.getElem?_cons_succ, List.getElem?_cons_zero]; rfl) (by kernel_rfl) (by kernel_rfl) (by kernel_rfl) (by exact fun _ _ _ h => h) (Or.inr ⟨by rfl, rfl⟩) (by assumption) ?_
            try simp only [Act.put, List.setIfInBounds_toArray, List.set_cons_zero, List.set_cons_succ]
            refine wpAnyH_take (i := 28) (v := ?v28z101x) (by simp only [List.getElem?_toArray, List.getElem?_cons_succ, List.getElem?_cons_zero]; rfl) (by kernel_rfl) (by kernel_rfl) (by kernel_rfl) (by exact fun _ _ _ h => h) (Or.inl ⟨by rfl, ?h28z101x⟩) (by assumption) ?_
            case h28z101x => (intro W hSw; (try dsimp only at hSw); go_simp; try with_reducible rfl)
            try simp only [Act.put, List.setIfInBounds_toArray, List.set_cons_zero, List.set_cons_succ]
            refine wpAnyH_take (i := 29) (v := ?v29z101x) (by simp only [List.getElem?_toArray, List.getElem?_cons_succ, List.getElem?_cons_zero]; rfl) (by kernel_rfl) (by kernel_rfl) (by kernel_rfl) (by exact fun _ _ _ h => h) (Or.inl ⟨by rfl, ?h29z101x⟩) (by assumption) ?_
            case h29z101x => (intro W hSw; (try dsimp only at hSw); go_simp; try with_reducible rfl)
            try simp only [Act.put, List.setIfInBounds_toArray, List.set_cons_zero, List.set_cons_succ]
            refine wpAnyH_done (by kernel_rfl) ?_ _
            have CMz : Hid (∀ W, Below w5.heap.size w5 W → PRow W w5.heap.size (.slice (some ⟨g14, 0, none⟩) k c') (l.set j2 ⟨z, some ⟨wr.heap.size, 0, none⟩, sz, sz, zs⟩) → Calls Try.prog 24 #[.pointer (some ⟨g, 0, none⟩), .slice (some ⟨g14, 0, none⟩) k c'] W fun en W' => en = .returned (.int .i64 1) ∧ ∃ p' j' u' V' H', UpJ Z w W' g gd gp 140 p' j' ∧ SJ p' 140 V' j' 1 u' r H') := Lib.hid (fun W hb hp => by
              have q := CM.out W z hb hp ZB.out
              rw [BE.out, if_neg (by decide)] at q
              exact q)
            go_wp2_with (first
              | (go_at_call 24; refine (CMz.out _ (B9.out.trans (DOWN.out.mono B9.out.size)) (P9.out.below DOWN.out)).mono ?_; rintro e wa ⟨rfl, p', j', u', V', H', ua, sa⟩
                 have UA := Lib.hid ua
                 have SA := Lib.hid sa
                 clear ua sa)
              | (go_at_call 29; refine (turn_up UA.out SA.out).mono ?_; rintro e wb ⟨rfl, rfl⟩))
            go_ret
            exact ⟨rfl, UA.out.bel⟩
          · have hd1 : decide ((hm : Int) ≤ z) = false := decide_eq_false hb1
            by_cases hb2 : z < (j2 : Int)
            · have hd2 : decide (z < (j2 : Int)) = true := decide_eq_true hb2
              have BE : Hid (boE z hm j2 sz r = 1) := Lib.hid (by unfold boE; rw [if_pos (.inr (.inr hb2))])
              clear hkk hr57
              refine wp_region_held_drew (S := fun W => W.cell? ⟨g14, j2 * 2, none⟩ = some (.int .i64 z)) (by kernel_rfl) C9.out (fun hHeld => ?_)
              refine wpAnyH_take (i := 0) (v := ?v0z102x) (by simp only [List.getElem?_toArray, List.getElem?_cons_succ, List.getElem?_cons_zero]; rfl) (by kernel_rfl) (by kernel_rfl) (by kernel_rfl) (by exact fun _ _ _ h => h) (Or.inl ⟨by rfl, ?h0z102x⟩) (by assumption) ?_
              case h0z102x => (intro W hSw; (try dsimp only at hSw); go_simp; try with_reducible rfl)
              try simp only [Act.put, List.setIfInBounds_toArray, List.set_cons_zero, List.set_cons_succ]
              refine wpAnyH_take (i := 1) (v := ?v1z102x) (by simp only [List.getElem?_toArray, List.getElem?_cons_succ, List.getElem?_cons_zero]; rfl) (by kernel_rfl) (by kernel_rfl) (by kernel_rfl) (by exact fun _ _ _ h => h) (Or.inl ⟨by rfl, ?h1z102x⟩) (by assumption) ?_
              case h1z102x => (intro W hSw; (try dsimp only at hSw); go_simp; try with_reducible rfl)
              try simp only [Act.put, List.setIfInBounds_toArray, List.set_cons_zero, List.set_cons_succ]
              refine wpAnyH_take (i := 2) (v := ?v2z102x) (by simp only [List.getElem?_toArray, List.getElem?_cons_succ, List.getElem?_cons_zero]; rfl) (by kernel_rfl) (by kernel_rfl) (by kernel_rfl) (by exact fun _ _ _ h => h) (Or.inl ⟨by rfl, ?h2z102x⟩) (by assumption) ?_
              case h2z102x => (intro W hSw; (try dsimp only at hSw); go_simp; try with_reducible rfl)
              try simp only [Act.put, List.setIfInBounds_toArray, List.set_cons_zero, List.set_cons_succ]
              refine wpAnyH_take (i := 3) (v := ?v3z102x) (by simp only [List.getElem?_toArray, List.getElem?_cons_succ, List.getElem?_cons_zero]; rfl) (by kernel_rfl) (by kernel_rfl) (by kernel_rfl) (by exact fun _ _ _ h => h) (Or.inl ⟨by rfl, ?h3z102x⟩) (by assumption) ?_
              case h3z102x => (intro W hSw; (try dsimp only at hSw); go_simp; try with_reducible rfl)
              try simp only [Act.put, List.setIfInBounds_toArray, List.set_cons_zero, List.set_cons_succ]
              refine wpAnyH_take (i := 4) (v := ?v4z102x) (by simp only [List.getElem?_toArray, List.getElem?_cons_succ, List.getElem?_cons_zero]; rfl) (by kernel_rfl) (by kernel_rfl) (by kernel_rfl) (by exact fun _ _ _ h => h) (Or.inl ⟨by rfl, ?h4z102x⟩) (by assumption) ?_
              case h4z102x => (intro W hSw; (try dsimp only at hSw); go_simp; try with_reducible rfl)
              try simp only [Act.put, List.setIfInBounds_toArray, List.set_cons_zero, List.set_cons_succ]
              refine wpAnyH_take (i := 5) (by simp only [List.getElem?_toArray, List.getElem?_cons_succ, List.getElem?_cons_zero]; rfl) (by kernel_rfl) (by kernel_rfl) (by kernel_rfl) (by exact fun _ _ _ h => h) (yieldsIf_loadG (by rfl) 3 (.tmp 70) rfl ⟨g14, j2 * 2, none⟩ rfl _ (fun W hW => load_intc hW)) (by assumption) ?_
              try simp only [Act.put, List.setIfInBounds_toArray, List.set_cons_zero, List.set_cons_succ]
              refine wpAnyH_take (i := 6) (v := ?v6z102x) (by simp only [List.getElem?_toArray, List.getElem?_cons_succ, List.getElem?_cons_zero]; rfl) (by kernel_rfl) (by kernel_rfl) (by kernel_rfl) (by exact fun _ _ _ h => h) (Or.inl ⟨by rfl, ?h6z102x⟩) (by assumption) ?_
              case h6z102x => (intro W hSw; (try dsimp only at hSw); go_simp; try with_reducible rfl)
              try simp only [Act.put, List.setIfInBounds_toArray, List.set_cons_zero, List.set_cons_succ]
              refine wpAnyH_take (i := 7) (v := ?v7z102x) (by simp only [List.getElem?_toArray, List.getElem?_cons_succ, List.getElem?_cons_zero]; rfl) (by kernel_rfl) (by kernel_rfl) (by kernel_rfl) (by exact fun _ _ _ h => h) (Or.inl ⟨by rfl, ?h7z102x⟩) (by assumption) ?_
              case h7z102x => (intro W hSw; (try dsimp only at hSw); go_simp; try with_reducible rfl)
              try simp only [Act.put, List.setIfInBounds_toArray, List.set_cons_zero, List.set_cons_succ]
              refine wpAnyH_take (i := 8) (v := ?v8z102x) (by simp only [List.getElem?_toArray, List.getElem?_cons_succ, List.getElem?_cons_zero]; rfl) (by kernel_rfl) (by kernel_rfl) (by kernel_rfl) (by exact fun _ _ _ h => h) (Or.inl ⟨by rfl, ?h8z102x⟩) (by assumption) ?_
              case h8z102x => (intro W hSw; (try dsimp only at hSw); go_simp; try with_reducible rfl)
              try simp only [Act.put, List.setIfInBounds_toArray, List.set_cons_zero, List.set_cons_succ]
              refine wpAnyH_take (i := 9) (v := ?v9z102x) (by simp only [List.getElem?_toArray, List.getElem?_cons_succ, List.getElem?_cons_zero]; rfl) (by kernel_rfl) (by kernel_rfl) (by kernel_rfl) (by exact fun _ _ _ h => h) (Or.inl ⟨by rfl, ?h9z102x⟩) (by assumption) ?_
              case h9z102x => (intro W hSw; (try dsimp only at hSw); go_simp; try with_reducible rfl)
              try simp only [Act.put, List.setIfInBounds_toArray, List.set_cons_zero, List.set_cons_succ]
              refine wpAnyH_take (i := 10) (v := ?v10z102x) (by simp only [List.getElem?_toArray, List.getElem?_cons_succ, List.getElem?_cons_zero]; rfl) (by kernel_rfl) (by kernel_rfl) (by kernel_rfl) (by exact fun _ _ _ h => h) (Or.inl ⟨by rfl, ?h10z102x⟩) (by assumption) ?_
              case h10z102x => (intro W hSw; (try dsimp only at hSw); go_simp; try with_reducible rfl)
              try simp only [Act.put, List.setIfInBounds_toArray, List.set_cons_zero, List.set_cons_succ]
              refine wpAnyH_take (i := 11) (v := ?v11z102x) (by simp only [List.getElem?_toArray, List.getElem?_cons_succ, List.getElem?_cons_zero]; rfl) (by kernel_rfl) (by kernel_rfl) (by kernel_rfl) (by exact fun _ _ _ h => h) (Or.inl ⟨by rfl, ?h11z102x⟩) (by assumption) ?_
              case h11z102x => (intro W hSw; (try dsimp only at hSw); go_simp; try with_reducible rfl)
              try simp only [Act.put, List.setIfInBounds_toArray, List.set_cons_zero, List.set_cons_succ]
              refine wpAnyH_take (i := 12) (v := ?v12z102x) (by simp only [List.getElem?_toArray, List.getElem?_cons_succ, List.getElem?_cons_zero]; rfl) (by kernel_rfl) (by kernel_rfl) (by kernel_rfl) (by exact fun _ _ _ h => h) (Or.inl ⟨by rfl, ?h12z102x⟩) (by assumption) ?_
              case h12z102x => (intro W hSw; (try dsimp only at hSw); go_simp; try with_reducible rfl)
              try simp only [Act.put, List.setIfInBounds_toArray, List.set_cons_zero, List.set_cons_succ]
              refine wpAnyH_take (i := 13) (by simp only [List.getElem?_toArray, List.getElem?_cons_succ, List.getElem?_cons_zero]; rfl) (by kernel_rfl) (by kernel_rfl) (by kernel_rfl) (by exact fun _ _ _ h => h) (yieldsIf_loadG (by rfl) 3 (.tmp 78) rfl ⟨g14, j2 * 2, none⟩ rfl _ (fun W hW => load_intc hW)) (by assumption) ?_
              try simp only [Act.put, List.setIfInBounds_toArray, List.set_cons_zero, List.set_cons_succ]
              refine wpAnyH_take (i := 14) (v := ?v14z102x) (by simp only [List.getElem?_toArray, List.getElem?_cons_succ, List.getElem?_cons_zero]; rfl) (by kernel_rfl) (by kernel_rfl) (by kernel_rfl) (by exact fun _ _ _ h => h) (Or.inl ⟨by rfl, ?h14z102x⟩) (by assumption) ?_
              case h14z102x => (intro W hSw; (try dsimp only at hSw); go_simp; try with_reducible rfl)
              try simp only [Act.put, List.setIfInBounds_toArray, List.set_cons_zero, List.set_cons_succ]
              refine wpAnyH_ready (rs := [15]) (by kernel_rfl) (by simp) ?_
              refine AllReadyH.cons (by simp only [List.getElem?_toArray, List.getElem?_cons_succ, List.getElem?_cons_zero]; rfl) (fun K hK => ?_) AllReadyH.nil
              go_simp
              refine (CH.out _ B9.out.drew).mono ?_
              rintro en w10 ⟨rfl, b10⟩
              have DOWN : Hid (Below w9.heap.size w9 w10) := Lib.hid ((Below.refl _ w9).drew.trans b10)
              refine hK _ _ ((DOWN.out.cell G9.out).trans C9.out) (fun hH15 => ?_)
              clear hK K b10
              try simp only [Act.put, List.setIfInBounds_toArray, List.set_cons_zero, List.set_cons_succ]
              refine wpAnyH_take (i := 16) (v := ?v16z102x) (by simp only [List.getElem?_toArray, List.getElem?_cons_succ, List.getElem?_cons_zero]; rfl) (by kernel_rfl) (by kernel_rfl) (by kernel_rfl) (by exact fun _ _ _ h => h) (Or.inl ⟨by rfl, ?h16z102x⟩) (by assumption) ?_
              case h16z102x => (intro W hSw; (try dsimp only at hSw); go_simp; try with_reducible rfl)
              try simp only [Act.put, List.setIfInBounds_toArray, List.set_cons_zero, List.set_cons_succ]
              refine wpAnyH_take (i := 17) (v := ?v17z102x) (by simp only [List.getElem?_toArray, List.getElem?_cons_succ, List.getElem?_cons_zero]; rfl) (by kernel_rfl) (by kernel_rfl) (by kernel_rfl) (by exact fun _ _ _ h => h) (Or.inl ⟨by rfl, ?h17z102x⟩) (by assumption) ?_
              case h17z102x => (intro W hSw; (try dsimp only at hSw); go_simp; try with_reducible rfl)
              try simp only [Act.put, List.setIfInBounds_toArray, List.set_cons_zero, List.set_cons_succ]
              refine wpAnyH_take (i := 18) (v := ?v18z102x) (by simp only [List.getElem?_toArray, List.getElem?_cons_succ, List.getElem?_cons_zero]; rfl) (by kernel_rfl) (by kernel_rfl) (by kernel_rfl) (by exact fun _ _ _ h => h) (Or.inl ⟨by rfl, ?h18z102x⟩) (by assumption) ?_
              case h18z102x => (intro W hSw; (try dsimp only at hSw); go_simp; try with_reducible rfl)
              try simp only [Act.put, List.setIfInBounds_toArray, List.set_cons_zero, List.set_cons_succ]
              refine wpAnyH_take (i := 19) (v := ?v19z102x) (by simp only [List.getElem?_toArray, List.getElem?_cons_succ, List.getElem?_cons_zero]; rfl) (by kernel_rfl) (by kernel_rfl) (by kernel_rfl) (by exact fun _ _ _ h => h) (Or.inl ⟨by rfl, ?h19z102x⟩) (by assumption) ?_
              case h19z102x => (intro W hSw; (try dsimp only at hSw); go_simp; try with_reducible rfl)
              try simp only [Act.put, List.setIfInBounds_toArray, List.set_cons_zero, List.set_cons_succ]
              refine wpAnyH_take (i := 20) (v := ?v20z102x) (by simp only [List.getElem?_toArray, List.getElem?_cons_succ, List.getElem?_cons_zero]; rfl) (by kernel_rfl) (by kernel_rfl) (by kernel_rfl) (by exact fun _ _ _ h => h) (Or.inl ⟨by rfl, ?h20z102x⟩) (by assumption) ?_
              case h20z102x => (intro W hSw; (try dsimp only at hSw); go_simp; try with_reducible rfl)
              try simp only [Act.put, List.setIfInBounds_toArray, List.set_cons_zero, List.set_cons_succ]
              refine wpAnyH_take (i := 21) (v := ?v21z102x) (by simp only [List.getElem?_toArray, List.getElem?_cons_succ, List.getElem?_cons_zero]; rfl) (by kernel_rfl) (by kernel_rfl) (by kernel_rfl) (by exact fun _ _ _ h => h) (Or.inl ⟨by rfl, ?h21z102x⟩) (by assumption) ?_
              case h21z102x => (intro W hSw; (try dsimp only at hSw); go_simp; try with_reducible rfl)
              try simp only [Act.put, List.setIfInBounds_toArray, List.set_cons_zero, List.set_cons_succ]
              refine wpAnyH_take (i := 22) (v := ?v22z102x) (by simp only [List.getElem?_toArray, List.getElem?_cons_succ, List.getElem?_cons_zero]; rfl) (by kernel_rfl) (by kernel_rfl) (by kernel_rfl) (by exact fun _ _ _ h => h) (Or.inl ⟨by rfl, ?h22z102x⟩) (by assumption) ?_
              case h22z102x => (intro W hSw; (try dsimp only at hSw); go_simp; try with_reducible rfl)
              try simp only [Act.put, List.setIfInBounds_toArray, List.set_cons_zero, List.set_cons_succ]
              refine wpAnyH_take (i := 23) (v := ?v23z102x) (by simp only [List.getElem?_toArray, List.getElem?_cons_succ, List.getElem?_cons_zero]; rfl) (by kernel_rfl) (by kernel_rfl) (by kernel_rfl) (by exact fun _ _ _ h => h) (Or.inl ⟨by rfl, ?h23z102x⟩) (by assumption) ?_
              case h23z102x => (intro W hSw; (try dsimp only at hSw); go_simp; try with_reducible rfl)
              try simp only [Act.put, List.setIfInBounds_toArray, List.set_cons_zero, List.set_cons_succ]
              refine wpAnyH_take (i := 24) (by simp only [List.getElem?_toArray, List.getElem?_cons_succ, List.getElem?_cons_zero]; rfl) (by kernel_rfl) (by kernel_rfl) (by kernel_rfl) (by exact fun _ _ _ h => h) (yieldsIf_loadG (by rfl) 3 (.tmp 89) rfl ⟨g14, j2 * 2, none⟩ rfl _ (fun W hW => load_intc hW)) (by assumption) ?_
              try simp only [Act.put, List.setIfInBounds_toArray, List.set_cons_zero, List.set_cons_succ]
              refine wpAnyH_take (i := 25) (v := ?v25z102x) (by simp only [List.getElem?_toArray, List.getElem?_cons_succ, List.getElem?_cons_zero]; rfl) (by kernel_rfl) (by kernel_rfl) (by kernel_rfl) (by exact fun _ _ _ h => h) (Or.inl ⟨by rfl, ?h25z102x⟩) (by assumption) ?_
              case h25z102x => (intro W hSw; (try dsimp only at hSw); go_simp; try with_reducible rfl)
              try simp only [Act.put, List.setIfInBounds_toArray, List.set_cons_zero, List.set_cons_succ]
              refine wpAnyH_take (i := 26) (v := ?v26z102x) (by simp only [List.getElem?_toArray, List.getElem?_cons_succ, List.getElem?_cons_zero]; rfl) (by kernel_rfl) (by kernel_rfl) (by kernel_rfl) (by exact fun _ _ _ h => h) (Or.inl ⟨by rfl, ?h26z102x⟩) (by assumption) ?_
              case h26z102x => (intro W hSw; (try dsimp only at hSw); go_simp; try with_reducible rfl)
              try simp only [Act.put, List.setIfInBounds_toArray, List.set_cons_zero, List.set_cons_succ]
              refine wpAnyH_take (i := 27) (v := ?v27z102x) (by simp only [List.getElem?_toArray, List.getElem?_cons_succ, List.getElem?_cons_zero]; rfl) (by kernel_rfl) (by kernel_rfl) (by kernel_rfl) (by exact fun _ _ _ h => h) (Or.inl ⟨by rfl, ?h27z102x⟩) (by assumption) ?_
              case h27z102x => (intro W hSw; (try dsimp only at hSw); go_simp; try with_reducible rfl)
              try simp only [Act.put, List.setIfInBounds_toArray, List.set_cons_zero, List.set_cons_succ]
              refine wpAnyH_take (i := 28) (v := ?v28z102x) (by simp only [List.getElem?_toArray, List.getElem?_cons_succ, List.getElem?_cons_zero]; rfl) (by kernel_rfl) (by kernel_rfl) (by kernel_rfl) (by exact fun _ _ _ h => h) (Or.inl ⟨by rfl, ?h28z102x⟩) (by assumption) ?_
              case h28z102x => (intro W hSw; (try dsimp only at hSw); go_simp; try with_reducible rfl)
              try simp only [Act.put, List.setIfInBounds_toArray, List.set_cons_zero, List.set_cons_succ]
              refine wpAnyH_take (i := 29) (v := ?v29z102x) (by simp only [List.getElem?_toArray, List.getElem?_cons_succ, List.getElem?_cons_zero]; rfl) (by kernel_rfl) (by kernel_rfl) (by kernel_rfl) (by exact fun _ _ _ h => h) (Or.inl ⟨by rfl, ?h29z102x⟩) (by assumption) ?_
              case h29z102x => (intro W hSw; (try dsimp only at hSw); go_simp; try with_reducible rfl)
              try simp only [Act.put, List.setIfInBounds_toArray, List.set_cons_zero, List.set_cons_succ]
              refine wpAnyH_done (by kernel_rfl) ?_ _
              have CMz : Hid (∀ W, Below w5.heap.size w5 W → PRow W w5.heap.size (.slice (some ⟨g14, 0, none⟩) k c') (l.set j2 ⟨z, some ⟨wr.heap.size, 0, none⟩, sz, sz, zs⟩) → Calls Try.prog 24 #[.pointer (some ⟨g, 0, none⟩), .slice (some ⟨g14, 0, none⟩) k c'] W fun en W' => en = .returned (.int .i64 1) ∧ ∃ p' j' u' V' H', UpJ Z w W' g gd gp 140 p' j' ∧ SJ p' 140 V' j' 1 u' r H') := Lib.hid (fun W hb hp => by
                have q := CM.out W z hb hp ZB.out
                rw [BE.out, if_neg (by decide)] at q
                exact q)
              go_wp2_with (first
                | (go_at_call 24; refine (CMz.out _ (B9.out.trans (DOWN.out.mono B9.out.size)) (P9.out.below DOWN.out)).mono ?_; rintro e wa ⟨rfl, p', j', u', V', H', ua, sa⟩
                   have UA := Lib.hid ua
                   have SA := Lib.hid sa
                   clear ua sa)
                | (go_at_call 29; refine (turn_up UA.out SA.out).mono ?_; rintro e wb ⟨rfl, rfl⟩))
              go_ret
              exact ⟨rfl, UA.out.bel⟩
            · have hd2 : decide (z < (j2 : Int)) = false := decide_eq_false hb2
              have hnb : ¬ (z < 0 ∨ (hm : Int) ≤ z ∨ z < (j2 : Int)) := by omega
              by_cases hs5 : sz = 512
              · have hd3 : ((sz : Int) != 512) = false := by rw [hs5]; rfl
                by_cases hq : 40 < k
                · have hd4 : decide ((40 : Int) < (k : Int)) = true := decide_eq_true (by omega)
                  have BE : Hid (boE z hm j2 sz r = 2) := Lib.hid (by unfold boE; rw [if_neg hnb, if_neg (by omega), if_pos (by omega)])
                  clear hkk hr57 hnb
                  refine wp_region_held_drew (S := fun W => W.cell? ⟨g14, j2 * 2, none⟩ = some (.int .i64 z)) (by kernel_rfl) C9.out (fun hHeld => ?_)
                  refine wpAnyH_take (i := 0) (v := ?v0z103x) (by simp only [List.getElem?_toArray, List.getElem?_cons_succ, List.getElem?_cons_zero]; rfl) (by kernel_rfl) (by kernel_rfl) (by kernel_rfl) (by exact fun _ _ _ h => h) (Or.inl ⟨by rfl, ?h0z103x⟩) (by assumption) ?_
                  case h0z103x => (intro W hSw; (try dsimp only at hSw); go_simp; try with_reducible rfl)
                  try simp only [Act.put, List.setIfInBounds_toArray, List.set_cons_zero, List.set_cons_succ]
                  refine wpAnyH_take (i := 1) (v := ?v1z103x) (by simp only [List.getElem?_toArray, List.getElem?_cons_succ, List.getElem?_cons_zero]; rfl) (by kernel_rfl) (by kernel_rfl) (by kernel_rfl) (by exact fun _ _ _ h => h) (Or.inl ⟨by rfl, ?h1z103x⟩) (by assumption) ?_
                  case h1z103x => (intro W hSw; (try dsimp only at hSw); go_simp; try with_reducible rfl)
                  try simp only [Act.put, List.setIfInBounds_toArray, List.set_cons_zero, List.set_cons_succ]
                  refine wpAnyH_take (i := 2) (v := ?v2z103x) (by simp only [List.getElem?_toArray, List.getElem?_cons_succ, List.getElem?_cons_zero]; rfl) (by kernel_rfl) (by kernel_rfl) (by kernel_rfl) (by exact fun _ _ _ h => h) (Or.inl ⟨by rfl, ?h2z103x⟩) (by assumption) ?_
                  case h2z103x => (intro W hSw; (try dsimp only at hSw); go_simp; try with_reducible rfl)
                  try simp only [Act.put, List.setIfInBounds_toArray, List.set_cons_zero, List.set_cons_succ]
                  refine wpAnyH_take (i := 3) (v := ?v3z103x) (by simp only [List.getElem?_toArray, List.getElem?_cons_succ, List.getElem?_cons_zero]; rfl) (by kernel_rfl) (by kernel_rfl) (by kernel_rfl) (by exact fun _ _ _ h => h) (Or.inl ⟨by rfl, ?h3z103x⟩) (by assumption) ?_
                  case h3z103x => (intro W hSw; (try dsimp only at hSw); go_simp; try with_reducible rfl)
                  try simp only [Act.put, List.setIfInBounds_toArray, List.set_cons_zero, List.set_cons_succ]
                  refine wpAnyH_take (i := 4) (v := ?v4z103x) (by simp only [List.getElem?_toArray, List.getElem?_cons_succ, List.getElem?_cons_zero]; rfl) (by kernel_rfl) (by kernel_rfl) (by kernel_rfl) (by exact fun _ _ _ h => h) (Or.inl ⟨by rfl, ?h4z103x⟩) (by assumption) ?_
                  case h4z103x => (intro W hSw; (try dsimp only at hSw); go_simp; try with_reducible rfl)
                  try simp only [Act.put, List.setIfInBounds_toArray, List.set_cons_zero, List.set_cons_succ]
                  refine wpAnyH_take (i := 5) (by simp only [List.getElem?_toArray, List.getElem?_cons_succ, List.getElem?_cons_zero]; rfl) (by kernel_rfl) (by kernel_rfl) (by kernel_rfl) (by exact fun _ _ _ h => h) (yieldsIf_loadG (by rfl) 3 (.tmp 70) rfl ⟨g14, j2 * 2, none⟩ rfl _ (fun W hW => load_intc hW)) (by assumption) ?_
                  try simp only [Act.put, List.setIfInBounds_toArray, List.set_cons_zero, List.set_cons_succ]
                  refine wpAnyH_take (i := 6) (v := ?v6z103x) (by simp only [List.getElem?_toArray, List.getElem?_cons_succ, List.getElem?_cons_zero]; rfl) (by kernel_rfl) (by kernel_rfl) (by kernel_rfl) (by exact fun _ _ _ h => h) (Or.inl ⟨by rfl, ?h6z103x⟩) (by assumption) ?_
                  case h6z103x => (intro W hSw; (try dsimp only at hSw); go_simp; try with_reducible rfl)
                  try simp only [Act.put, List.setIfInBounds_toArray, List.set_cons_zero, List.set_cons_succ]
                  refine wpAnyH_take (i := 7) (v := ?v7z103x) (by simp only [List.getElem?_toArray, List.getElem?_cons_succ, List.getElem?_cons_zero]; rfl) (by kernel_rfl) (by kernel_rfl) (by kernel_rfl) (by exact fun _ _ _ h => h) (Or.inl ⟨by rfl, ?h7z103x⟩) (by assumption) ?_
                  case h7z103x => (intro W hSw; (try dsimp only at hSw); go_simp; try with_reducible rfl)
                  try simp only [Act.put, List.setIfInBounds_toArray, List.set_cons_zero, List.set_cons_succ]
                  refine wpAnyH_take (i := 8) (v := ?v8z103x) (by simp only [List.getElem?_toArray, List.getElem?_cons_succ, List.getElem?_cons_zero]; rfl) (by kernel_rfl) (by kernel_rfl) (by kernel_rfl) (by exact fun _ _ _ h => h) (Or.inl ⟨by rfl, ?h8z103x⟩) (by assumption) ?_
                  case h8z103x => (intro W hSw; (try dsimp only at hSw); go_simp; try with_reducible rfl)
                  try simp only [Act.put, List.setIfInBounds_toArray, List.set_cons_zero, List.set_cons_succ]
                  refine wpAnyH_take (i := 9) (v := ?v9z103x) (by simp only [List.getElem?_toArray, List.getElem?_cons_succ, List.getElem?_cons_zero]; rfl) (by kernel_rfl) (by kernel_rfl) (by kernel_rfl) (by exact fun _ _ _ h => h) (Or.inl ⟨by rfl, ?h9z103x⟩) (by assumption) ?_
                  case h9z103x => (intro W hSw; (try dsimp only at hSw); go_simp; try with_reducible rfl)
                  try simp only [Act.put, List.setIfInBounds_toArray, List.set_cons_zero, List.set_cons_succ]
                  refine wpAnyH_take (i := 10) (v := ?v10z103x) (by simp only [List.getElem?_toArray, List.getElem?_cons_succ, List.getElem?_cons_zero]; rfl) (by kernel_rfl) (by kernel_rfl) (by kernel_rfl) (by exact fun _ _ _ h => h) (Or.inl ⟨by rfl, ?h10z103x⟩) (by assumption) ?_
                  case h10z103x => (intro W hSw; (try dsimp only at hSw); go_simp; try with_reducible rfl)
                  try simp only [Act.put, List.setIfInBounds_toArray, List.set_cons_zero, List.set_cons_succ]
                  refine wpAnyH_take (i := 11) (v := ?v11z103x) (by simp only [List.getElem?_toArray, List.getElem?_cons_succ, List.getElem?_cons_zero]; rfl) (by kernel_rfl) (by kernel_rfl) (by kernel_rfl) (by exact fun _ _ _ h => h) (Or.inl ⟨by rfl, ?h11z103x⟩) (by assumption) ?_
                  case h11z103x => (intro W hSw; (try dsimp only at hSw); go_simp; try with_reducible rfl)
                  try simp only [Act.put, List.setIfInBounds_toArray, List.set_cons_zero, List.set_cons_succ]
                  refine wpAnyH_take (i := 12) (v := ?v12z103x) (by simp only [List.getElem?_toArray, List.getElem?_cons_succ, List.getElem?_cons_zero]; rfl) (by kernel_rfl) (by kernel_rfl) (by kernel_rfl) (by exact fun _ _ _ h => h) (Or.inl ⟨by rfl, ?h12z103x⟩) (by assumption) ?_
                  case h12z103x => (intro W hSw; (try dsimp only at hSw); go_simp; try with_reducible rfl)
                  try simp only [Act.put, List.setIfInBounds_toArray, List.set_cons_zero, List.set_cons_succ]
                  refine wpAnyH_take (i := 13) (by simp only [List.getElem?_toArray, List.getElem?_cons_succ, List.getElem?_cons_zero]; rfl) (by kernel_rfl) (by kernel_rfl) (by kernel_rfl) (by exact fun _ _ _ h => h) (yieldsIf_loadG (by rfl) 3 (.tmp 78) rfl ⟨g14, j2 * 2, none⟩ rfl _ (fun W hW => load_intc hW)) (by assumption) ?_
                  try simp only [Act.put, List.setIfInBounds_toArray, List.set_cons_zero, List.set_cons_succ]
                  refine wpAnyH_take (i := 14) (v := ?v14z103x) (by simp only [List.getElem?_toArray, List.getElem?_cons_succ, List.getElem?_cons_zero]; rfl) (by kernel_rfl) (by kernel_rfl) (by kernel_rfl) (by exact fun _ _ _ h => h) (Or.inl ⟨by rfl, ?h14z103x⟩) (by assumption) ?_
                  case h14z103x => (intro W hSw; (try dsimp only at hSw); go_simp; try with_reducible rfl)
                  try simp only [Act.put, List.setIfInBounds_toArray, List.set_cons_zero, List.set_cons_succ]
                  refine wpAnyH_ready (rs := [15]) (by kernel_rfl) (by simp) ?_
                  refine AllReadyH.cons (by simp only [List.getElem?_toArray, List.getElem?_cons_succ, List.getElem?_cons_zero]; rfl) (fun K hK => ?_) AllReadyH.nil
                  go_simp
                  refine (CH.out _ B9.out.drew).mono ?_
                  rintro en w10 ⟨rfl, b10⟩
                  have DOWN : Hid (Below w9.heap.size w9 w10) := Lib.hid ((Below.refl _ w9).drew.trans b10)
                  refine hK _ _ ((DOWN.out.cell G9.out).trans C9.out) (fun hH15 => ?_)
                  clear hK K b10
                  try simp only [Act.put, List.setIfInBounds_toArray, List.set_cons_zero, List.set_cons_succ]
                  refine wpAnyH_take (i := 16) (v := ?v16z103x) (by simp only [List.getElem?_toArray, List.getElem?_cons_succ, List.getElem?_cons_zero]; rfl) (by kernel_rfl) (by kernel_rfl) (by kernel_rfl) (by exact fun _ _ _ h => h) (Or.inl ⟨by rfl, ?h16z103x⟩) (by assumption) ?_
                  case h16z103x => (intro W hSw; (try dsimp only at hSw); go_simp; try with_reducible rfl)
                  try simp only [Act.put, List.setIfInBounds_toArray, List.set_cons_zero, List.set_cons_succ]
                  refine wpAnyH_take (i := 17) (v := ?v17z103x) (by simp only [List.getElem?_toArray, List.getElem?_cons_succ, List.getElem?_cons_zero]; rfl) (by kernel_rfl) (by kernel_rfl) (by kernel_rfl) (by exact fun _ _ _ h => h) (Or.inl ⟨by rfl, ?h17z103x⟩) (by assumption) ?_
                  case h17z103x => (intro W hSw; (try dsimp only at hSw); go_simp; try with_reducible rfl)
                  try simp only [Act.put, List.setIfInBounds_toArray, List.set_cons_zero, List.set_cons_succ]
                  refine wpAnyH_take (i := 18) (v := ?v18z103x) (by simp only [List.getElem?_toArray, List.getElem?_cons_succ, List.getElem?_cons_zero]; rfl) (by kernel_rfl) (by kernel_rfl) (by kernel_rfl) (by exact fun _ _ _ h => h) (Or.inl ⟨by rfl, ?h18z103x⟩) (by assumption) ?_
                  case h18z103x => (intro W hSw; (try dsimp only at hSw); go_simp; try with_reducible rfl)
                  try simp only [Act.put, List.setIfInBounds_toArray, List.set_cons_zero, List.set_cons_succ]
                  refine wpAnyH_take (i := 19) (v := ?v19z103x) (by simp only [List.getElem?_toArray, List.getElem?_cons_succ, List.getElem?_cons_zero]; rfl) (by kernel_rfl) (by kernel_rfl) (by kernel_rfl) (by exact fun _ _ _ h => h) (Or.inl ⟨by rfl, ?h19z103x⟩) (by assumption) ?_
                  case h19z103x => (intro W hSw; (try dsimp only at hSw); go_simp; try with_reducible rfl)
                  try simp only [Act.put, List.setIfInBounds_toArray, List.set_cons_zero, List.set_cons_succ]
                  refine wpAnyH_take (i := 20) (v := ?v20z103x) (by simp only [List.getElem?_toArray, List.getElem?_cons_succ, List.getElem?_cons_zero]; rfl) (by kernel_rfl) (by kernel_rfl) (by kernel_rfl) (by exact fun _ _ _ h => h) (Or.inl ⟨by rfl, ?h20z103x⟩) (by assumption) ?_
                  case h20z103x => (intro W hSw; (try dsimp only at hSw); go_simp; try with_reducible rfl)
                  try simp only [Act.put, List.setIfInBounds_toArray, List.set_cons_zero, List.set_cons_succ]
                  refine wpAnyH_take (i := 21) (v := ?v21z103x) (by simp only [List.getElem?_toArray, List.getElem?_cons_succ, List.getElem?_cons_zero]; rfl) (by kernel_rfl) (by kernel_rfl) (by kernel_rfl) (by exact fun _ _ _ h => h) (Or.inl ⟨by rfl, ?h21z103x⟩) (by assumption) ?_
                  case h21z103x => (intro W hSw; (try dsimp only at hSw); go_simp; try with_reducible rfl)
                  try simp only [Act.put, List.setIfInBounds_toArray, List.set_cons_zero, List.set_cons_succ]
                  refine wpAnyH_take (i := 22) (v := ?v22z103x) (by simp only [List.getElem?_toArray, List.getElem?_cons_succ, List.getElem?_cons_zero]; rfl) (by kernel_rfl) (by kernel_rfl) (by kernel_rfl) (by exact fun _ _ _ h => h) (Or.inl ⟨by rfl, ?h22z103x⟩) (by assumption) ?_
                  case h22z103x => (intro W hSw; (try dsimp only at hSw); go_simp; try with_reducible rfl)
                  try simp only [Act.put, List.setIfInBounds_toArray, List.set_cons_zero, List.set_cons_succ]
                  refine wpAnyH_take (i := 23) (v := ?v23z103x) (by simp only [List.getElem?_toArray, List.getElem?_cons_succ, List.getElem?_cons_zero]; rfl) (by kernel_rfl) (by kernel_rfl) (by kernel_rfl) (by exact fun _ _ _ h => h) (Or.inl ⟨by rfl, ?h23z103x⟩) (by assumption) ?_
                  case h23z103x => (intro W hSw; (try dsimp only at hSw); go_simp; try with_reducible rfl)
                  try simp only [Act.put, List.setIfInBounds_toArray, List.set_cons_zero, List.set_cons_succ]
                  refine wpAnyH_take (i := 24) (by simp only [List.getElem?_toArray, List.getElem?_cons_succ, List.getElem?_cons_zero]; rfl) (by kernel_rfl) (by kernel_rfl) (by kernel_rfl) (by exact fun _ _ _ h => h) (yieldsIf_loadG (by rfl) 3 (.tmp 89) rfl ⟨g14, j2 * 2, none⟩ rfl _ (fun W hW => load_intc hW)) (by assumption) ?_
                  try simp only [Act.put, List.setIfInBounds_toArray, List.set_cons_zero, List.set_cons_succ]
                  refine wpAnyH_take (i := 25) (v := ?v25z103x) (by simp only [List.getElem?_toArray, List.getElem?_cons_succ, List.getElem?_cons_zero]; rfl) (by kernel_rfl) (by kernel_rfl) (by kernel_rfl) (by exact fun _ _ _ h => h) (Or.inl ⟨by rfl, ?h25z103x⟩) (by assumption) ?_
                  case h25z103x => (intro W hSw; (try dsimp only at hSw); go_simp; try with_reducible rfl)
                  try simp only [Act.put, List.setIfInBounds_toArray, List.set_cons_zero, List.set_cons_succ]
                  refine wpAnyH_take (i := 26) (v := ?v26z103x) (by simp only [List.getElem?_toArray, List.getElem?_cons_succ, List.getElem?_cons_zero]; rfl) (by kernel_rfl) (by kernel_rfl) (by kernel_rfl) (by exact fun _ _ _ h => h) (Or.inl ⟨by rfl, ?h26z103x⟩) (by assumption) ?_
                  case h26z103x => (intro W hSw; (try dsimp only at hSw); go_simp; try with_reducible rfl)
                  try simp only [Act.put, List.setIfInBounds_toArray, List.set_cons_zero, List.set_cons_succ]
                  refine wpAnyH_take (i := 27) (v := ?v27z103x) (by simp only [List.getElem?_toArray, List.getElem?_cons_succ, List.getElem?_cons_zero]; rfl) (by kernel_rfl) (by kernel_rfl) (by kernel_rfl) (by exact fun _ _ _ h => h) (Or.inl ⟨by rfl, ?h27z103x⟩) (by assumption) ?_
                  case h27z103x => (intro W hSw; (try dsimp only at hSw); go_simp; try with_reducible rfl)
                  try simp only [Act.put, List.setIfInBounds_toArray, List.set_cons_zero, List.set_cons_succ]
                  refine wpAnyH_take (i := 28) (v := ?v28z103x) (by simp only [List.getElem?_toArray, List.getElem?_cons_succ, List.getElem?_cons_zero]; rfl) (by kernel_rfl) (by kernel_rfl) (by kernel_rfl) (by exact fun _ _ _ h => h) (Or.inl ⟨by rfl, ?h28z103x⟩) (by assumption) ?_
                  case h28z103x => (intro W hSw; (try dsimp only at hSw); go_simp; try with_reducible rfl)
                  try simp only [Act.put, List.setIfInBounds_toArray, List.set_cons_zero, List.set_cons_succ]
                  refine wpAnyH_take (i := 29) (v := ?v29z103x) (by simp only [List.getElem?_toArray, List.getElem?_cons_succ, List.getElem?_cons_zero]; rfl) (by kernel_rfl) (by kernel_rfl) (by kernel_rfl) (by exact fun _ _ _ h => h) (Or.inl ⟨by rfl, ?h29z103x⟩) (by assumption) ?_
                  case h29z103x => (intro W hSw; (try dsimp only at hSw); go_simp; try with_reducible rfl)
                  try simp only [Act.put, List.setIfInBounds_toArray, List.set_cons_zero, List.set_cons_succ]
                  refine wpAnyH_done (by kernel_rfl) ?_ _
                  have CMz : Hid (∀ W, Below w5.heap.size w5 W → PRow W w5.heap.size (.slice (some ⟨g14, 0, none⟩) k c') (l.set j2 ⟨z, some ⟨wr.heap.size, 0, none⟩, sz, sz, zs⟩) → Calls Try.prog 24 #[.pointer (some ⟨g, 0, none⟩), .slice (some ⟨g14, 0, none⟩) k c'] W fun en W' => en = .returned (.int .i64 2) ∧ ∃ p' j' u' V' H', UpJ Z w W' g gd gp 140 p' j' ∧ SJ p' 140 V' j' 1 u' r H') := Lib.hid (fun W hb hp => by
                    have q := CM.out W z hb hp ZB.out
                    rw [BE.out, if_neg (by decide)] at q
                    exact q)
                  go_wp2_with (first
                    | (go_at_call 24; refine (CMz.out _ (B9.out.trans (DOWN.out.mono B9.out.size)) (P9.out.below DOWN.out)).mono ?_; rintro e wa ⟨rfl, p', j', u', V', H', ua, sa⟩
                       have UA := Lib.hid ua
                       have SA := Lib.hid sa
                       clear ua sa)
                    | (go_at_call 29; refine (turn_up UA.out SA.out).mono ?_; rintro e wb ⟨rfl, rfl⟩))
                  go_ret
                  exact ⟨rfl, UA.out.bel⟩
                · have hd4 : decide ((40 : Int) < (k : Int)) = false := decide_eq_false (by omega)
                  by_cases hq2 : r ≤ k
                  · have hd5 : decide ((r : Int) ≤ (k : Int)) = true := decide_eq_true (by omega)
                    have BE : Hid (boE z hm j2 sz r = 2) := Lib.hid (by unfold boE; rw [if_neg hnb, if_neg (by omega), if_pos (by omega)])
                    clear hkk hr57 hnb
                    refine wp_region_held_drew (S := fun W => W.cell? ⟨g14, j2 * 2, none⟩ = some (.int .i64 z)) (by kernel_rfl) C9.out (fun hHeld => ?_)
                    refine wpAnyH_take (i := 0) (v := ?v0z104x) (by simp only [List.getElem?_toArray, List.getElem?_cons_succ, List.getElem?_cons_zero]; rfl) (by kernel_rfl) (by kernel_rfl) (by kernel_rfl) (by exact fun _ _ _ h => h) (Or.inl ⟨by rfl, ?h0z104x⟩) (by assumption) ?_
                    case h0z104x => (intro W hSw; (try dsimp only at hSw); go_simp; try with_reducible rfl)
                    try simp only [Act.put, List.setIfInBounds_toArray, List.set_cons_zero, List.set_cons_succ]
                    refine wpAnyH_take (i := 1) (v := ?v1z104x) (by simp only [List.getElem?_toArray, List.getElem?_cons_succ, List.getElem?_cons_zero]; rfl) (by kernel_rfl) (by kernel_rfl) (by kernel_rfl) (by exact fun _ _ _ h => h) (Or.inl ⟨by rfl, ?h1z104x⟩) (by assumption) ?_
                    case h1z104x => (intro W hSw; (try dsimp only at hSw); go_simp; try with_reducible rfl)
                    try simp only [Act.put, List.setIfInBounds_toArray, List.set_cons_zero, List.set_cons_succ]
                    refine wpAnyH_take (i := 2) (v := ?v2z104x) (by simp only [List.getElem?_toArray, List.getElem?_cons_succ, List.getElem?_cons_zero]; rfl) (by kernel_rfl) (by kernel_rfl) (by kernel_rfl) (by exact fun _ _ _ h => h) (Or.inl ⟨by rfl, ?h2z104x⟩) (by assumption) ?_
                    case h2z104x => (intro W hSw; (try dsimp only at hSw); go_simp; try with_reducible rfl)
                    try simp only [Act.put, List.setIfInBounds_toArray, List.set_cons_zero, List.set_cons_succ]
                    refine wpAnyH_take (i := 3) (v := ?v3z104x) (by simp only [List.getElem?_toArray, List.getElem?_cons_succ, List.getElem?_cons_zero]; rfl) (by kernel_rfl) (by kernel_rfl) (by kernel_rfl) (by exact fun _ _ _ h => h) (Or.inl ⟨by rfl, ?h3z104x⟩) (by assumption) ?_
                    case h3z104x => (intro W hSw; (try dsimp only at hSw); go_simp; try with_reducible rfl)
                    try simp only [Act.put, List.setIfInBounds_toArray, List.set_cons_zero, List.set_cons_succ]
                    refine wpAnyH_take (i := 4) (v := ?v4z104x) (by simp only [List.getElem?_toArray, List.getElem?_cons_succ, List.getElem?_cons_zero]; rfl) (by kernel_rfl) (by kernel_rfl) (by kernel_rfl) (by exact fun _ _ _ h => h) (Or.inl ⟨by rfl, ?h4z104x⟩) (by assumption) ?_
                    case h4z104x => (intro W hSw; (try dsimp only at hSw); go_simp; try with_reducible rfl)
                    try simp only [Act.put, List.setIfInBounds_toArray, List.set_cons_zero, List.set_cons_succ]
                    refine wpAnyH_take (i := 5) (by simp only [List.getElem?_toArray, List.getElem?_cons_succ, List.getElem?_cons_zero]; rfl) (by kernel_rfl) (by kernel_rfl) (by kernel_rfl) (by exact fun _ _ _ h => h) (yieldsIf_loadG (by rfl) 3 (.tmp 70) rfl ⟨g14, j2 * 2, none⟩ rfl _ (fun W hW => load_intc hW)) (by assumption) ?_
                    try simp only [Act.put, List.setIfInBounds_toArray, List.set_cons_zero, List.set_cons_succ]
                    refine wpAnyH_take (i := 6) (v := ?v6z104x) (by simp only [List.getElem?_toArray, List.getElem?_cons_succ, List.getElem?_cons_zero]; rfl) (by kernel_rfl) (by kernel_rfl) (by kernel_rfl) (by exact fun _ _ _ h => h) (Or.inl ⟨by rfl, ?h6z104x⟩) (by assumption) ?_
                    case h6z104x => (intro W hSw; (try dsimp only at hSw); go_simp; try with_reducible rfl)
                    try simp only [Act.put, List.setIfInBounds_toArray, List.set_cons_zero, List.set_cons_succ]
                    refine wpAnyH_take (i := 7) (v := ?v7z104x) (by simp only [List.getElem?_toArray, List.getElem?_cons_succ, List.getElem?_cons_zero]; rfl) (by kernel_rfl) (by kernel_rfl) (by kernel_rfl) (by exact fun _ _ _ h => h) (Or.inl ⟨by rfl, ?h7z104x⟩) (by assumption) ?_
                    case h7z104x => (intro W hSw; (try dsimp only at hSw); go_simp; try with_reducible rfl)
                    try simp only [Act.put, List.setIfInBounds_toArray, List.set_cons_zero, List.set_cons_succ]
                    refine wpAnyH_take (i := 8) (v := ?v8z104x) (by simp only [List.getElem?_toArray, List.getElem?_cons_succ, List.getElem?_cons_zero]; rfl) (by kernel_rfl) (by kernel_rfl) (by kernel_rfl) (by exact fun _ _ _ h => h) (Or.inl ⟨by rfl, ?h8z104x⟩) (by assumption) ?_
                    case h8z104x => (intro W hSw; (try dsimp only at hSw); go_simp; try with_reducible rfl)
                    try simp only [Act.put, List.setIfInBounds_toArray, List.set_cons_zero, List.set_cons_succ]
                    refine wpAnyH_take (i := 9) (v := ?v9z104x) (by simp only [List.getElem?_toArray, List.getElem?_cons_succ, List.getElem?_cons_zero]; rfl) (by kernel_rfl) (by kernel_rfl) (by kernel_rfl) (by exact fun _ _ _ h => h) (Or.inl ⟨by rfl, ?h9z104x⟩) (by assumption) ?_
                    case h9z104x => (intro W hSw; (try dsimp only at hSw); go_simp; try with_reducible rfl)
                    try simp only [Act.put, List.setIfInBounds_toArray, List.set_cons_zero, List.set_cons_succ]
                    refine wpAnyH_take (i := 10) (v := ?v10z104x) (by simp only [List.getElem?_toArray, List.getElem?_cons_succ, List.getElem?_cons_zero]; rfl) (by kernel_rfl) (by kernel_rfl) (by kernel_rfl) (by exact fun _ _ _ h => h) (Or.inl ⟨by rfl, ?h10z104x⟩) (by assumption) ?_
                    case h10z104x => (intro W hSw; (try dsimp only at hSw); go_simp; try with_reducible rfl)
                    try simp only [Act.put, List.setIfInBounds_toArray, List.set_cons_zero, List.set_cons_succ]
                    refine wpAnyH_take (i := 11) (v := ?v11z104x) (by simp only [List.getElem?_toArray, List.getElem?_cons_succ, List.getElem?_cons_zero]; rfl) (by kernel_rfl) (by kernel_rfl) (by kernel_rfl) (by exact fun _ _ _ h => h) (Or.inl ⟨by rfl, ?h11z104x⟩) (by assumption) ?_
                    case h11z104x => (intro W hSw; (try dsimp only at hSw); go_simp; try with_reducible rfl)
                    try simp only [Act.put, List.setIfInBounds_toArray, List.set_cons_zero, List.set_cons_succ]
                    refine wpAnyH_take (i := 12) (v := ?v12z104x) (by simp only [List.getElem?_toArray, List.getElem?_cons_succ, List.getElem?_cons_zero]; rfl) (by kernel_rfl) (by kernel_rfl) (by kernel_rfl) (by exact fun _ _ _ h => h) (Or.inl ⟨by rfl, ?h12z104x⟩) (by assumption) ?_
                    case h12z104x => (intro W hSw; (try dsimp only at hSw); go_simp; try with_reducible rfl)
                    try simp only [Act.put, List.setIfInBounds_toArray, List.set_cons_zero, List.set_cons_succ]
                    refine wpAnyH_take (i := 13) (by simp only [List.getElem?_toArray, List.getElem?_cons_succ, List.getElem?_cons_zero]; rfl) (by kernel_rfl) (by kernel_rfl) (by kernel_rfl) (by exact fun _ _ _ h => h) (yieldsIf_loadG (by rfl) 3 (.tmp 78) rfl ⟨g14, j2 * 2, none⟩ rfl _ (fun W hW => load_intc hW)) (by assumption) ?_
                    try simp only [Act.put, List.setIfInBounds_toArray, List.set_cons_zero, List.set_cons_succ]
                    refine wpAnyH_take (i := 14) (v := ?v14z104x) (by simp only [List.getElem?_toArray, List.getElem?_cons_succ, List.getElem?_cons_zero]; rfl) (by kernel_rfl) (by kernel_rfl) (by kernel_rfl) (by exact fun _ _ _ h => h) (Or.inl ⟨by rfl, ?h14z104x⟩) (by assumption) ?_
                    case h14z104x => (intro W hSw; (try dsimp only at hSw); go_simp; try with_reducible rfl)
                    try simp only [Act.put, List.setIfInBounds_toArray, List.set_cons_zero, List.set_cons_succ]
                    refine wpAnyH_ready (rs := [15]) (by kernel_rfl) (by simp) ?_
                    refine AllReadyH.cons (by simp only [List.getElem?_toArray, List.getElem?_cons_succ, List.getElem?_cons_zero]; rfl) (fun K hK => ?_) AllReadyH.nil
                    go_simp
                    refine (CH.out _ B9.out.drew).mono ?_
                    rintro en w10 ⟨rfl, b10⟩
                    have DOWN : Hid (Below w9.heap.size w9 w10) := Lib.hid ((Below.refl _ w9).drew.trans b10)
                    refine hK _ _ ((DOWN.out.cell G9.out).trans C9.out) (fun hH15 => ?_)
                    clear hK K b10
                    try simp only [Act.put, List.setIfInBounds_toArray, List.set_cons_zero, List.set_cons_succ]
                    refine wpAnyH_take (i := 16) (v := ?v16z104x) (by simp only [List.getElem?_toArray, List.getElem?_cons_succ, List.getElem?_cons_zero]; rfl) (by kernel_rfl) (by kernel_rfl) (by kernel_rfl) (by exact fun _ _ _ h => h) (Or.inl ⟨by rfl, ?h16z104x⟩) (by assumption) ?_
                    case h16z104x => (intro W hSw; (try dsimp only at hSw); go_simp; try with_reducible rfl)
                    try simp only [Act.put, List.setIfInBounds_toArray, List.set_cons_zero, List.set_cons_succ]
                    refine wpAnyH_take (i := 17) (v := ?v17z104x) (by simp only [List.getElem?_toArray, List.getElem?_cons_succ, List.getElem?_cons_zero]; rfl) (by kernel_rfl) (by kernel_rfl) (by kernel_rfl) (by exact fun _ _ _ h => h) (Or.inl ⟨by rfl, ?h17z104x⟩) (by assumption) ?_
                    case h17z104x => (intro W hSw; (try dsimp only at hSw); go_simp; try with_reducible rfl)
                    try simp only [Act.put, List.setIfInBounds_toArray, List.set_cons_zero, List.set_cons_succ]
                    refine wpAnyH_take (i := 18) (v := ?v18z104x) (by simp only [List.getElem?_toArray, List.getElem?_cons_succ, List.getElem?_cons_zero]; rfl) (by kernel_rfl) (by kernel_rfl) (by kernel_rfl) (by exact fun _ _ _ h => h) (Or.inl ⟨by rfl, ?h18z104x⟩) (by assumption) ?_
                    case h18z104x => (intro W hSw; (try dsimp only at hSw); go_simp; try with_reducible rfl)
                    try simp only [Act.put, List.setIfInBounds_toArray, List.set_cons_zero, List.set_cons_succ]
                    refine wpAnyH_take (i := 19) (v := ?v19z104x) (by simp only [List.getElem?_toArray, List.getElem?_cons_succ, List.getElem?_cons_zero]; rfl) (by kernel_rfl) (by kernel_rfl) (by kernel_rfl) (by exact fun _ _ _ h => h) (Or.inl ⟨by rfl, ?h19z104x⟩) (by assumption) ?_
                    case h19z104x => (intro W hSw; (try dsimp only at hSw); go_simp; try with_reducible rfl)
                    try simp only [Act.put, List.setIfInBounds_toArray, List.set_cons_zero, List.set_cons_succ]
                    refine wpAnyH_take (i := 20) (v := ?v20z104x) (by simp only [List.getElem?_toArray, List.getElem?_cons_succ, List.getElem?_cons_zero]; rfl) (by kernel_rfl) (by kernel_rfl) (by kernel_rfl) (by exact fun _ _ _ h => h) (Or.inl ⟨by rfl, ?h20z104x⟩) (by assumption) ?_
                    case h20z104x => (intro W hSw; (try dsimp only at hSw); go_simp; try with_reducible rfl)
                    try simp only [Act.put, List.setIfInBounds_toArray, List.set_cons_zero, List.set_cons_succ]
                    refine wpAnyH_take (i := 21) (v := ?v21z104x) (by simp only [List.getElem?_toArray, List.getElem?_cons_succ, List.getElem?_cons_zero]; rfl) (by kernel_rfl) (by kernel_rfl) (by kernel_rfl) (by exact fun _ _ _ h => h) (Or.inl ⟨by rfl, ?h21z104x⟩) (by assumption) ?_
                    case h21z104x => (intro W hSw; (try dsimp only at hSw); go_simp; try with_reducible rfl)
                    try simp only [Act.put, List.setIfInBounds_toArray, List.set_cons_zero, List.set_cons_succ]
                    refine wpAnyH_take (i := 22) (v := ?v22z104x) (by simp only [List.getElem?_toArray, List.getElem?_cons_succ, List.getElem?_cons_zero]; rfl) (by kernel_rfl) (by kernel_rfl) (by kernel_rfl) (by exact fun _ _ _ h => h) (Or.inl ⟨by rfl, ?h22z104x⟩) (by assumption) ?_
                    case h22z104x => (intro W hSw; (try dsimp only at hSw); go_simp; try with_reducible rfl)
                    try simp only [Act.put, List.setIfInBounds_toArray, List.set_cons_zero, List.set_cons_succ]
                    refine wpAnyH_take (i := 23) (v := ?v23z104x) (by simp only [List.getElem?_toArray, List.getElem?_cons_succ, List.getElem?_cons_zero]; rfl) (by kernel_rfl) (by kernel_rfl) (by kernel_rfl) (by exact fun _ _ _ h => h) (Or.inl ⟨by rfl, ?h23z104x⟩) (by assumption) ?_
                    case h23z104x => (intro W hSw; (try dsimp only at hSw); go_simp; try with_reducible rfl)
                    try simp only [Act.put, List.setIfInBounds_toArray, List.set_cons_zero, List.set_cons_succ]
                    refine wpAnyH_take (i := 24) (by simp only [List.getElem?_toArray, List.getElem?_cons_succ, List.getElem?_cons_zero]; rfl) (by kernel_rfl) (by kernel_rfl) (by kernel_rfl) (by exact fun _ _ _ h => h) (yieldsIf_loadG (by rfl) 3 (.tmp 89) rfl ⟨g14, j2 * 2, none⟩ rfl _ (fun W hW => load_intc hW)) (by assumption) ?_
                    try simp only [Act.put, List.setIfInBounds_toArray, List.set_cons_zero, List.set_cons_succ]
                    refine wpAnyH_take (i := 25) (v := ?v25z104x) (by simp only [List.getElem?_toArray, List.getElem?_cons_succ, List.getElem?_cons_zero]; rfl) (by kernel_rfl) (by kernel_rfl) (by kernel_rfl) (by exact fun _ _ _ h => h) (Or.inl ⟨by rfl, ?h25z104x⟩) (by assumption) ?_
                    case h25z104x => (intro W hSw; (try dsimp only at hSw); go_simp; try with_reducible rfl)
                    try simp only [Act.put, List.setIfInBounds_toArray, List.set_cons_zero, List.set_cons_succ]
                    refine wpAnyH_take (i := 26) (v := ?v26z104x) (by simp only [List.getElem?_toArray, List.getElem?_cons_succ, List.getElem?_cons_zero]; rfl) (by kernel_rfl) (by kernel_rfl) (by kernel_rfl) (by exact fun _ _ _ h => h) (Or.inl ⟨by rfl, ?h26z104x⟩) (by assumption) ?_
                    case h26z104x => (intro W hSw; (try dsimp only at hSw); go_simp; try with_reducible rfl)
                    try simp only [Act.put, List.setIfInBounds_toArray, List.set_cons_zero, List.set_cons_succ]
                    refine wpAnyH_take (i := 27) (v := ?v27z104x) (by simp only [List.getElem?_toArray, List.getElem?_cons_succ, List.getElem?_cons_zero]; rfl) (by kernel_rfl) (by kernel_rfl) (by kernel_rfl) (by exact fun _ _ _ h => h) (Or.inl ⟨by rfl, ?h27z104x⟩) (by assumption) ?_
                    case h27z104x => (intro W hSw; (try dsimp only at hSw); go_simp; try with_reducible rfl)
                    try simp only [Act.put, List.setIfInBounds_toArray, List.set_cons_zero, List.set_cons_succ]
                    refine wpAnyH_take (i := 28) (v := ?v28z104x) (by simp only [List.getElem?_toArray, List.getElem?_cons_succ, List.getElem?_cons_zero]; rfl) (by kernel_rfl) (by kernel_rfl) (by kernel_rfl) (by exact fun _ _ _ h => h) (Or.inl ⟨by rfl, ?h28z104x⟩) (by assumption) ?_
                    case h28z104x => (intro W hSw; (try dsimp only at hSw); go_simp; try with_reducible rfl)
                    try simp only [Act.put, List.setIfInBounds_toArray, List.set_cons_zero, List.set_cons_succ]
                    refine wpAnyH_take (i := 29) (v := ?v29z104x) (by simp only [List.getElem?_toArray, List.getElem?_cons_succ, List.getElem?_cons_zero]; rfl) (by kernel_rfl) (by kernel_rfl) (by kernel_rfl) (by exact fun _ _ _ h => h) (Or.inl ⟨by rfl, ?h29z104x⟩) (by assumption) ?_
                    case h29z104x => (intro W hSw; (try dsimp only at hSw); go_simp; try with_reducible rfl)
                    try simp only [Act.put, List.setIfInBounds_toArray, List.set_cons_zero, List.set_cons_succ]
                    refine wpAnyH_done (by kernel_rfl) ?_ _
                    have CMz : Hid (∀ W, Below w5.heap.size w5 W → PRow W w5.heap.size (.slice (some ⟨g14, 0, none⟩) k c') (l.set j2 ⟨z, some ⟨wr.heap.size, 0, none⟩, sz, sz, zs⟩) → Calls Try.prog 24 #[.pointer (some ⟨g, 0, none⟩), .slice (some ⟨g14, 0, none⟩) k c'] W fun en W' => en = .returned (.int .i64 2) ∧ ∃ p' j' u' V' H', UpJ Z w W' g gd gp 140 p' j' ∧ SJ p' 140 V' j' 1 u' r H') := Lib.hid (fun W hb hp => by
                      have q := CM.out W z hb hp ZB.out
                      rw [BE.out, if_neg (by decide)] at q
                      exact q)
                    go_wp2_with (first
                      | (go_at_call 24; refine (CMz.out _ (B9.out.trans (DOWN.out.mono B9.out.size)) (P9.out.below DOWN.out)).mono ?_; rintro e wa ⟨rfl, p', j', u', V', H', ua, sa⟩
                         have UA := Lib.hid ua
                         have SA := Lib.hid sa
                         clear ua sa)
                      | (go_at_call 29; refine (turn_up UA.out SA.out).mono ?_; rintro e wb ⟨rfl, rfl⟩))
                    go_ret
                    exact ⟨rfl, UA.out.bel⟩
                  · have hd5 : decide ((r : Int) ≤ (k : Int)) = false := decide_eq_false (by omega)
                    have BE : Hid (boE z hm j2 sz r = 0) := Lib.hid (by unfold boE; rw [if_neg hnb, if_neg (by omega), if_neg (by omega)])
                    clear hkk hr57 hnb
                    refine wp_region_held_drew (S := fun W => W.cell? ⟨g14, j2 * 2, none⟩ = some (.int .i64 z)) (by kernel_rfl) C9.out (fun hHeld => ?_)
                    refine wpAnyH_take (i := 0) (v := ?v0z105x) (by simp only [List.getElem?_toArray, List.getElem?_cons_succ, List.getElem?_cons_zero]; rfl) (by kernel_rfl) (by kernel_rfl) (by kernel_rfl) (by exact fun _ _ _ h => h) (Or.inl ⟨by rfl, ?h0z105x⟩) (by assumption) ?_
                    case h0z105x => (intro W hSw; (try dsimp only at hSw); go_simp; try with_reducible rfl)
                    try simp only [Act.put, List.setIfInBounds_toArray, List.set_cons_zero, List.set_cons_succ]
                    refine wpAnyH_take (i := 1) (v := ?v1z105x) (by simp only [List.getElem?_toArray, List.getElem?_cons_succ, List.getElem?_cons_zero]; rfl) (by kernel_rfl) (by kernel_rfl) (by kernel_rfl) (by exact fun _ _ _ h => h) (Or.inl ⟨by rfl, ?h1z105x⟩) (by assumption) ?_
                    case h1z105x => (intro W hSw; (try dsimp only at hSw); go_simp; try with_reducible rfl)
                    try simp only [Act.put, List.setIfInBounds_toArray, List.set_cons_zero, List.set_cons_succ]
                    refine wpAnyH_take (i := 2) (v := ?v2z105x) (by simp only [List.getElem?_toArray, List.getElem?_cons_succ, List.getElem?_cons_zero]; rfl) (by kernel_rfl) (by kernel_rfl) (by kernel_rfl) (by exact fun _ _ _ h => h) (Or.inl ⟨by rfl, ?h2z105x⟩) (by assumption) ?_
                    case h2z105x => (intro W hSw; (try dsimp only at hSw); go_simp; try with_reducible rfl)
                    try simp only [Act.put, List.setIfInBounds_toArray, List.set_cons_zero, List.set_cons_succ]
                    refine wpAnyH_take (i := 3) (v := ?v3z105x) (by simp only [List.getElem?_toArray, List.getElem?_cons_succ, List.getElem?_cons_zero]; rfl) (by kernel_rfl) (by kernel_rfl) (by kernel_rfl) (by exact fun _ _ _ h => h) (Or.inl ⟨by rfl, ?h3z105x⟩) (by assumption) ?_
                    case h3z105x => (intro W hSw; (try dsimp only at hSw); go_simp; try with_reducible rfl)
                    try simp only [Act.put, List.setIfInBounds_toArray, List.set_cons_zero, List.set_cons_succ]
                    refine wpAnyH_take (i := 4) (v := ?v4z105x) (by simp only [List.getElem?_toArray, List.getElem?_cons_succ, List.getElem?_cons_zero]; rfl) (by kernel_rfl) (by kernel_rfl) (by kernel_rfl) (by exact fun _ _ _ h => h) (Or.inl ⟨by rfl, ?h4z105x⟩) (by assumption) ?_
                    case h4z105x => (intro W hSw; (try dsimp only at hSw); go_simp; try with_reducible rfl)
                    try simp only [Act.put, List.setIfInBounds_toArray, List.set_cons_zero, List.set_cons_succ]
                    refine wpAnyH_take (i := 5) (by simp only [List.getElem?_toArray, List.getElem?_cons_succ, List.getElem?_cons_zero]; rfl) (by kernel_rfl) (by kernel_rfl) (by kernel_rfl) (by exact fun _ _ _ h => h) (yieldsIf_loadG (by rfl) 3 (.tmp 70) rfl ⟨g14, j2 * 2, none⟩ rfl _ (fun W hW => load_intc hW)) (by assumption) ?_
                    try simp only [Act.put, List.setIfInBounds_toArray, List.set_cons_zero, List.set_cons_succ]
                    refine wpAnyH_take (i := 6) (v := ?v6z105x) (by simp only [List.getElem?_toArray, List.getElem?_cons_succ, List.getElem?_cons_zero]; rfl) (by kernel_rfl) (by kernel_rfl) (by kernel_rfl) (by exact fun _ _ _ h => h) (Or.inl ⟨by rfl, ?h6z105x⟩) (by assumption) ?_
                    case h6z105x => (intro W hSw; (try dsimp only at hSw); go_simp; try with_reducible rfl)
                    try simp only [Act.put, List.setIfInBounds_toArray, List.set_cons_zero, List.set_cons_succ]
                    refine wpAnyH_take (i := 7) (v := ?v7z105x) (by simp only [List.getElem?_toArray, List.getElem?_cons_succ, List.getElem?_cons_zero]; rfl) (by kernel_rfl) (by kernel_rfl) (by kernel_rfl) (by exact fun _ _ _ h => h) (Or.inl ⟨by rfl, ?h7z105x⟩) (by assumption) ?_
                    case h7z105x => (intro W hSw; (try dsimp only at hSw); go_simp; try with_reducible rfl)
                    try simp only [Act.put, List.setIfInBounds_toArray, List.set_cons_zero, List.set_cons_succ]
                    refine wpAnyH_take (i := 8) (v := ?v8z105x) (by simp only [List.getElem?_toArray, List.getElem?_cons_succ, List.getElem?_cons_zero]; rfl) (by kernel_rfl) (by kernel_rfl) (by kernel_rfl) (by exact fun _ _ _ h => h) (Or.inl ⟨by rfl, ?h8z105x⟩) (by assumption) ?_
                    case h8z105x => (intro W hSw; (try dsimp only at hSw); go_simp; try with_reducible rfl)
                    try simp only [Act.put, List.setIfInBounds_toArray, List.set_cons_zero, List.set_cons_succ]
                    refine wpAnyH_take (i := 9) (v := ?v9z105x) (by simp only [List.getElem?_toArray, List.getElem?_cons_succ, List.getElem?_cons_zero]; rfl) (by kernel_rfl) (by kernel_rfl) (by kernel_rfl) (by exact fun _ _ _ h => h) (Or.inl ⟨by rfl, ?h9z105x⟩) (by assumption) ?_
                    case h9z105x => (intro W hSw; (try dsimp only at hSw); go_simp; try with_reducible rfl)
                    try simp only [Act.put, List.setIfInBounds_toArray, List.set_cons_zero, List.set_cons_succ]
                    refine wpAnyH_take (i := 10) (v := ?v10z105x) (by simp only [List.getElem?_toArray, List.getElem?_cons_succ, List.getElem?_cons_zero]; rfl) (by kernel_rfl) (by kernel_rfl) (by kernel_rfl) (by exact fun _ _ _ h => h) (Or.inl ⟨by rfl, ?h10z105x⟩) (by assumption) ?_
                    case h10z105x => (intro W hSw; (try dsimp only at hSw); go_simp; try with_reducible rfl)
                    try simp only [Act.put, List.setIfInBounds_toArray, List.set_cons_zero, List.set_cons_succ]
                    refine wpAnyH_take (i := 11) (v := ?v11z105x) (by simp only [List.getElem?_toArray, List.getElem?_cons_succ, List.getElem?_cons_zero]; rfl) (by kernel_rfl) (by kernel_rfl) (by kernel_rfl) (by exact fun _ _ _ h => h) (Or.inl ⟨by rfl, ?h11z105x⟩) (by assumption) ?_
                    case h11z105x => (intro W hSw; (try dsimp only at hSw); go_simp; try with_reducible rfl)
                    try simp only [Act.put, List.setIfInBounds_toArray, List.set_cons_zero, List.set_cons_succ]
                    refine wpAnyH_take (i := 12) (v := ?v12z105x) (by simp only [List.getElem?_toArray, List.getElem?_cons_succ, List.getElem?_cons_zero]; rfl) (by kernel_rfl) (by kernel_rfl) (by kernel_rfl) (by exact fun _ _ _ h => h) (Or.inl ⟨by rfl, ?h12z105x⟩) (by assumption) ?_
                    case h12z105x => (intro W hSw; (try dsimp only at hSw); go_simp; try with_reducible rfl)
                    try simp only [Act.put, List.setIfInBounds_toArray, List.set_cons_zero, List.set_cons_succ]
                    refine wpAnyH_take (i := 13) (by simp only [List.getElem?_toArray, List.getElem?_cons_succ, List.getElem?_cons_zero]; rfl) (by kernel_rfl) (by kernel_rfl) (by kernel_rfl) (by exact fun _ _ _ h => h) (yieldsIf_loadG (by rfl) 3 (.tmp 78) rfl ⟨g14, j2 * 2, none⟩ rfl _ (fun W hW => load_intc hW)) (by assumption) ?_
                    try simp only [Act.put, List.setIfInBounds_toArray, List.set_cons_zero, List.set_cons_succ]
                    refine wpAnyH_take (i := 14) (v := ?v14z105x) (by simp only [List.getElem?_toArray, List.getElem?_cons_succ, List.getElem?_cons_zero]; rfl) (by kernel_rfl) (by kernel_rfl) (by kernel_rfl) (by exact fun _ _ _ h => h) (Or.inl ⟨by rfl, ?h14z105x⟩) (by assumption) ?_
                    case h14z105x => (intro W hSw; (try dsimp only at hSw); go_simp; try with_reducible rfl)
                    try simp only [Act.put, List.setIfInBounds_toArray, List.set_cons_zero, List.set_cons_succ]
                    refine wpAnyH_ready (rs := [15]) (by kernel_rfl) (by simp) ?_
                    refine AllReadyH.cons (by simp only [List.getElem?_toArray, List.getElem?_cons_succ, List.getElem?_cons_zero]; rfl) (fun K hK => ?_) AllReadyH.nil
                    go_simp
                    refine (CH.out _ B9.out.drew).mono ?_
                    rintro en w10 ⟨rfl, b10⟩
                    have DOWN : Hid (Below w9.heap.size w9 w10) := Lib.hid ((Below.refl _ w9).drew.trans b10)
                    refine hK _ _ ((DOWN.out.cell G9.out).trans C9.out) (fun hH15 => ?_)
                    clear hK K b10
                    try simp only [Act.put, List.setIfInBounds_toArray, List.set_cons_zero, List.set_cons_succ]
                    refine wpAnyH_take (i := 16) (v := ?v16z105x) (by simp only [List.getElem?_toArray, List.getElem?_cons_succ, List.getElem?_cons_zero]; rfl) (by kernel_rfl) (by kernel_rfl) (by kernel_rfl) (by exact fun _ _ _ h => h) (Or.inl ⟨by rfl, ?h16z105x⟩) (by assumption) ?_
                    case h16z105x => (intro W hSw; (try dsimp only at hSw); go_simp; try with_reducible rfl)
                    try simp only [Act.put, List.setIfInBounds_toArray, List.set_cons_zero, List.set_cons_succ]
                    refine wpAnyH_take (i := 17) (v := ?v17z105x) (by simp only [List.getElem?_toArray, List.getElem?_cons_succ, List.getElem?_cons_zero]; rfl) (by kernel_rfl) (by kernel_rfl) (by kernel_rfl) (by exact fun _ _ _ h => h) (Or.inl ⟨by rfl, ?h17z105x⟩) (by assumption) ?_
                    case h17z105x => (intro W hSw; (try dsimp only at hSw); go_simp; try with_reducible rfl)
                    try simp only [Act.put, List.setIfInBounds_toArray, List.set_cons_zero, List.set_cons_succ]
                    refine wpAnyH_take (i := 18) (v := ?v18z105x) (by simp only [List.getElem?_toArray, List.getElem?_cons_succ, List.getElem?_cons_zero]; rfl) (by kernel_rfl) (by kernel_rfl) (by kernel_rfl) (by exact fun _ _ _ h => h) (Or.inl ⟨by rfl, ?h18z105x⟩) (by assumption) ?_
                    case h18z105x => (intro W hSw; (try dsimp only at hSw); go_simp; try with_reducible rfl)
                    try simp only [Act.put, List.setIfInBounds_toArray, List.set_cons_zero, List.set_cons_succ]
                    refine wpAnyH_take (i := 19) (v := ?v19z105x) (by simp only [List.getElem?_toArray, List.getElem?_cons_succ, List.getElem?_cons_zero]; rfl) (by kernel_rfl) (by kernel_rfl) (by kernel_rfl) (by exact fun _ _ _ h => h) (Or.inl ⟨by rfl, ?h19z105x⟩) (by assumption) ?_
                    case h19z105x => (intro W hSw; (try dsimp only at hSw); go_simp; try with_reducible rfl)
                    try simp only [Act.put, List.setIfInBounds_toArray, List.set_cons_zero, List.set_cons_succ]
                    refine wpAnyH_take (i := 20) (v := ?v20z105x) (by simp only [List.getElem?_toArray, List.getElem?_cons_succ, List.getElem?_cons_zero]; rfl) (by kernel_rfl) (by kernel_rfl) (by kernel_rfl) (by exact fun _ _ _ h => h) (Or.inl ⟨by rfl, ?h20z105x⟩) (by assumption) ?_
                    case h20z105x => (intro W hSw; (try dsimp only at hSw); go_simp; try with_reducible rfl)
                    try simp only [Act.put, List.setIfInBounds_toArray, List.set_cons_zero, List.set_cons_succ]
                    refine wpAnyH_take (i := 21) (v := ?v21z105x) (by simp only [List.getElem?_toArray, List.getElem?_cons_succ, List.getElem?_cons_zero]; rfl) (by kernel_rfl) (by kernel_rfl) (by kernel_rfl) (by exact fun _ _ _ h => h) (Or.inl ⟨by rfl, ?h21z105x⟩) (by assumption) ?_
                    case h21z105x => (intro W hSw; (try dsimp only at hSw); go_simp; try with_reducible rfl)
                    try simp only [Act.put, List.setIfInBounds_toArray, List.set_cons_zero, List.set_cons_succ]
                    refine wpAnyH_take (i := 22) (v := ?v22z105x) (by simp only [List.getElem?_toArray, List.getElem?_cons_succ, List.getElem?_cons_zero]; rfl) (by kernel_rfl) (by kernel_rfl) (by kernel_rfl) (by exact fun _ _ _ h => h) (Or.inl ⟨by rfl, ?h22z105x⟩) (by assumption) ?_
                    case h22z105x => (intro W hSw; (try dsimp only at hSw); go_simp; try with_reducible rfl)
                    try simp only [Act.put, List.setIfInBounds_toArray, List.set_cons_zero, List.set_cons_succ]
                    refine wpAnyH_take (i := 23) (v := ?v23z105x) (by simp only [List.getElem?_toArray, List.getElem?_cons_succ, List.getElem?_cons_zero]; rfl) (by kernel_rfl) (by kernel_rfl) (by kernel_rfl) (by exact fun _ _ _ h => h) (Or.inl ⟨by rfl, ?h23z105x⟩) (by assumption) ?_
                    case h23z105x => (intro W hSw; (try dsimp only at hSw); go_simp; try with_reducible rfl)
                    try simp only [Act.put, List.setIfInBounds_toArray, List.set_cons_zero, List.set_cons_succ]
                    refine wpAnyH_take (i := 24) (by simp only [List.getElem?_toArray, List.getElem?_cons_succ, List.getElem?_cons_zero]; rfl) (by kernel_rfl) (by kernel_rfl) (by kernel_rfl) (by exact fun _ _ _ h => h) (yieldsIf_loadG (by rfl) 3 (.tmp 89) rfl ⟨g14, j2 * 2, none⟩ rfl _ (fun W hW => load_intc hW)) (by assumption) ?_
                    try simp only [Act.put, List.setIfInBounds_toArray, List.set_cons_zero, List.set_cons_succ]
                    refine wpAnyH_take (i := 25) (v := ?v25z105x) (by simp only [List.getElem?_toArray, List.getElem?_cons_succ, List.getElem?_cons_zero]; rfl) (by kernel_rfl) (by kernel_rfl) (by kernel_rfl) (by exact fun _ _ _ h => h) (Or.inl ⟨by rfl, ?h25z105x⟩) (by assumption) ?_
                    case h25z105x => (intro W hSw; (try dsimp only at hSw); go_simp; try with_reducible rfl)
                    try simp only [Act.put, List.setIfInBounds_toArray, List.set_cons_zero, List.set_cons_succ]
                    refine wpAnyH_take (i := 26) (v := ?v26z105x) (by simp only [List.getElem?_toArray, List.getElem?_cons_succ, List.getElem?_cons_zero]; rfl) (by kernel_rfl) (by kernel_rfl) (by kernel_rfl) (by exact fun _ _ _ h => h) (Or.inl ⟨by rfl, ?h26z105x⟩) (by assumption) ?_
                    case h26z105x => (intro W hSw; (try dsimp only at hSw); go_simp; try with_reducible rfl)
                    try simp only [Act.put, List.setIfInBounds_toArray, List.set_cons_zero, List.set_cons_succ]
                    refine wpAnyH_take (i := 27) (v := ?v27z105x) (by simp only [List.getElem?_toArray, List.getElem?_cons_succ, List.getElem?_cons_zero]; rfl) (by kernel_rfl) (by kernel_rfl) (by kernel_rfl) (by exact fun _ _ _ h => h) (Or.inl ⟨by rfl, ?h27z105x⟩) (by assumption) ?_
                    case h27z105x => (intro W hSw; (try dsimp only at hSw); go_simp; try with_reducible rfl)
                    try simp only [Act.put, List.setIfInBounds_toArray, List.set_cons_zero, List.set_cons_succ]
                    refine wpAnyH_take (i := 28) (v := ?v28z105x) (by simp only [List.getElem?_toArray, List.getElem?_cons_succ, List.getElem?_cons_zero]; rfl) (by kernel_rfl) (by kernel_rfl) (by kernel_rfl) (by exact fun _ _ _ h => h) (Or.inl ⟨by rfl, ?h28z105x⟩) (by assumption) ?_
                    case h28z105x => (intro W hSw; (try dsimp only at hSw); go_simp; try with_reducible rfl)
                    try simp only [Act.put, List.setIfInBounds_toArray, List.set_cons_zero, List.set_cons_succ]
                    refine wpAnyH_take (i := 29) (v := ?v29z105x) (by simp only [List.getElem?_toArray, List.getElem?_cons_succ, List.getElem?_cons_zero]; rfl) (by kernel_rfl) (by kernel_rfl) (by kernel_rfl) (by exact fun _ _ _ h => h) (Or.inl ⟨by rfl, ?h29z105x⟩) (by assumption) ?_
                    case h29z105x => (intro W hSw; (try dsimp only at hSw); go_simp; try with_reducible rfl)
                    try simp only [Act.put, List.setIfInBounds_toArray, List.set_cons_zero, List.set_cons_succ]
                    refine wpAnyH_done (by kernel_rfl) ?_ _
                    have CMz : Hid (∀ W, Below w5.heap.size w5 W → PRow W w5.heap.size (.slice (some ⟨g14, 0, none⟩) k c') (l.set j2 ⟨z, some ⟨wr.heap.size, 0, none⟩, sz, sz, zs⟩) → Calls Try.prog 24 #[.pointer (some ⟨g, 0, none⟩), .slice (some ⟨g14, 0, none⟩) k c'] W fun en W' => en = .returned (.int .i64 0) ∧ ∃ p' j' u' V' H', UpJ Z w W' g gd gp 140 p' j' ∧ SJ p' 140 V' j' 2 u' r H') := Lib.hid (fun W hb hp => by
                      have q := CM.out W z hb hp ZB.out
                      rw [BE.out, if_pos rfl] at q
                      exact q)
                    go_wp2_with (first
                      | (go_at_call 24; refine (CMz.out _ (B9.out.trans (DOWN.out.mono B9.out.size)) (P9.out.below DOWN.out)).mono ?_; rintro e wa ⟨rfl, p', j', u', V', H', ua, sa⟩
                         have UA := Lib.hid ua
                         have SA := Lib.hid sa
                         clear ua sa)
                      | (go_at_call 29; refine (turn_up UA.out SA.out).mono ?_; rintro e wb ⟨rfl, rfl⟩))
                    go_ret
                    exact ⟨rfl, UA.out.bel⟩
              · have hd3 : ((sz : Int) != 512) = true := by rw [bne_iff_ne]; omega
                have BE : Hid (boE z hm j2 sz r = 9) := Lib.hid (by unfold boE; rw [if_neg hnb, if_pos (by omega)])
                clear hkk hr57 hnb
                refine wp_region_held_drew (S := fun W => W.cell? ⟨g14, j2 * 2, none⟩ = some (.int .i64 z)) (by kernel_rfl) C9.out (fun hHeld => ?_)
                refine wpAnyH_take (i := 0) (v := ?v0z106x) (by simp only [List.getElem?_toArray, List.getElem?_cons_succ, List.getElem?_cons_zero]; rfl) (by kernel_rfl) (by kernel_rfl) (by kernel_rfl) (by exact fun _ _ _ h => h) (Or.inl ⟨by rfl, ?h0z106x⟩) (by assumption) ?_
                case h0z106x => (intro W hSw; (try dsimp only at hSw); go_simp; try with_reducible rfl)
                try simp only [Act.put, List.setIfInBounds_toArray, List.set_cons_zero, List.set_cons_succ]
                refine wpAnyH_take (i := 1) (v := ?v1z106x) (by simp only [List.getElem?_toArray, List.getElem?_cons_succ, List.getElem?_cons_zero]; rfl) (by kernel_rfl) (by kernel_rfl) (by kernel_rfl) (by exact fun _ _ _ h => h) (Or.inl ⟨by rfl, ?h1z106x⟩) (by assumption) ?_
                case h1z106x => (intro W hSw; (try dsimp only at hSw); go_simp; try with_reducible rfl)
                try simp only [Act.put, List.setIfInBounds_toArray, List.set_cons_zero, List.set_cons_succ]
                refine wpAnyH_take (i := 2) (v := ?v2z106x) (by simp only [List.getElem?_toArray, List.getElem?_cons_succ, List.getElem?_cons_zero]; rfl) (by kernel_rfl) (by kernel_rfl) (by kernel_rfl) (by exact fun _ _ _ h => h) (Or.inl ⟨by rfl, ?h2z106x⟩) (by assumption) ?_
                case h2z106x => (intro W hSw; (try dsimp only at hSw); go_simp; try with_reducible rfl)
                try simp only [Act.put, List.setIfInBounds_toArray, List.set_cons_zero, List.set_cons_succ]
                refine wpAnyH_take (i := 3) (v := ?v3z106x) (by simp only [List.getElem?_toArray, List.getElem?_cons_succ, List.getElem?_cons_zero]; rfl) (by kernel_rfl) (by kernel_rfl) (by kernel_rfl) (by exact fun _ _ _ h => h) (Or.inl ⟨by rfl, ?h3z106x⟩) (by assumption) ?_
                case h3z106x => (intro W hSw; (try dsimp only at hSw); go_simp; try with_reducible rfl)
                try simp only [Act.put, List.setIfInBounds_toArray, List.set_cons_zero, List.set_cons_succ]
                refine wpAnyH_take (i := 4) (v := ?v4z106x) (by simp only [List.getElem?_toArray, List.getElem?_cons_succ, List.getElem?_cons_zero]; rfl) (by kernel_rfl) (by kernel_rfl) (by kernel_rfl) (by exact fun _ _ _ h => h) (Or.inl ⟨by rfl, ?h4z106x⟩) (by assumption) ?_
                case h4z106x => (intro W hSw; (try dsimp only at hSw); go_simp; try with_reducible rfl)
                try simp only [Act.put, List.setIfInBounds_toArray, List.set_cons_zero, List.set_cons_succ]
                refine wpAnyH_take (i := 5) (by simp only [List.getElem?_toArray, List.getElem?_cons_succ, List.getElem?_cons_zero]; rfl) (by kernel_rfl) (by kernel_rfl) (by kernel_rfl) (by exact fun _ _ _ h => h) (yieldsIf_loadG (by rfl) 3 (.tmp 70) rfl ⟨g14, j2 * 2, none⟩ rfl _ (fun W hW => load_intc hW)) (by assumption) ?_
                try simp only [Act.put, List.setIfInBounds_toArray, List.set_cons_zero, List.set_cons_succ]
                refine wpAnyH_take (i := 6) (v := ?v6z106x) (by simp only [List.getElem?_toArray, List.getElem?_cons_succ, List.getElem?_cons_zero]; rfl) (by kernel_rfl) (by kernel_rfl) (by kernel_rfl) (by exact fun _ _ _ h => h) (Or.inl ⟨by rfl, ?h6z106x⟩) (by assumption) ?_
                case h6z106x => (intro W hSw; (try dsimp only at hSw); go_simp; try with_reducible rfl)
                try simp only [Act.put, List.setIfInBounds_toArray, List.set_cons_zero, List.set_cons_succ]
                refine wpAnyH_take (i := 7) (v := ?v7z106x) (by simp only [List.getElem?_toArray, List.getElem?_cons_succ, List.getElem?_cons_zero]; rfl) (by kernel_rfl) (by kernel_rfl) (by kernel_rfl) (by exact fun _ _ _ h => h) (Or.inl ⟨by rfl, ?h7z106x⟩) (by assumption) ?_
                case h7z106x => (intro W hSw; (try dsimp only at hSw); go_simp; try with_reducible rfl)
                try simp only [Act.put, List.setIfInBounds_toArray, List.set_cons_zero, List.set_cons_succ]
                refine wpAnyH_take (i := 8) (v := ?v8z106x) (by simp only [List.getElem?_toArray, List.getElem?_cons_succ, List.getElem?_cons_zero]; rfl) (by kernel_rfl) (by kernel_rfl) (by kernel_rfl) (by exact fun _ _ _ h => h) (Or.inl ⟨by rfl, ?h8z106x⟩) (by assumption) ?_
                case h8z106x => (intro W hSw; (try dsimp only at hSw); go_simp; try with_reducible rfl)
                try simp only [Act.put, List.setIfInBounds_toArray, List.set_cons_zero, List.set_cons_succ]
                refine wpAnyH_take (i := 9) (v := ?v9z106x) (by simp only [List.getElem?_toArray, List.getElem?_cons_succ, List.getElem?_cons_zero]; rfl) (by kernel_rfl) (by kernel_rfl) (by kernel_rfl) (by exact fun _ _ _ h => h) (Or.inl ⟨by rfl, ?h9z106x⟩) (by assumption) ?_
                case h9z106x => (intro W hSw; (try dsimp only at hSw); go_simp; try with_reducible rfl)
                try simp only [Act.put, List.setIfInBounds_toArray, List.set_cons_zero, List.set_cons_succ]
                refine wpAnyH_take (i := 10) (v := ?v10z106x) (by simp only [List.getElem?_toArray, List.getElem?_cons_succ, List.getElem?_cons_zero]; rfl) (by kernel_rfl) (by kernel_rfl) (by kernel_rfl) (by exact fun _ _ _ h => h) (Or.inl ⟨by rfl, ?h10z106x⟩) (by assumption) ?_
                case h10z106x => (intro W hSw; (try dsimp only at hSw); go_simp; try with_reducible rfl)
                try simp only [Act.put, List.setIfInBounds_toArray, List.set_cons_zero, List.set_cons_succ]
                refine wpAnyH_take (i := 11) (v := ?v11z106x) (by simp only [List.getElem?_toArray, List.getElem?_cons_succ, List.getElem?_cons_zero]; rfl) (by kernel_rfl) (by kernel_rfl) (by kernel_rfl) (by exact fun _ _ _ h => h) (Or.inl ⟨by rfl, ?h11z106x⟩) (by assumption) ?_
                case h11z106x => (intro W hSw; (try dsimp only at hSw); go_simp; try with_reducible rfl)
                try simp only [Act.put, List.setIfInBounds_toArray, List.set_cons_zero, List.set_cons_succ]
                refine wpAnyH_take (i := 12) (v := ?v12z106x) (by simp only [List.getElem?_toArray, List.getElem?_cons_succ, List.getElem?_cons_zero]; rfl) (by kernel_rfl) (by kernel_rfl) (by kernel_rfl) (by exact fun _ _ _ h => h) (Or.inl ⟨by rfl, ?h12z106x⟩) (by assumption) ?_
                case h12z106x => (intro W hSw; (try dsimp only at hSw); go_simp; try with_reducible rfl)
                try simp only [Act.put, List.setIfInBounds_toArray, List.set_cons_zero, List.set_cons_succ]
                refine wpAnyH_take (i := 13) (by simp only [List.getElem?_toArray, List.getElem?_cons_succ, List.getElem?_cons_zero]; rfl) (by kernel_rfl) (by kernel_rfl) (by kernel_rfl) (by exact fun _ _ _ h => h) (yieldsIf_loadG (by rfl) 3 (.tmp 78) rfl ⟨g14, j2 * 2, none⟩ rfl _ (fun W hW => load_intc hW)) (by assumption) ?_
                try simp only [Act.put, List.setIfInBounds_toArray, List.set_cons_zero, List.set_cons_succ]
                refine wpAnyH_take (i := 14) (v := ?v14z106x) (by simp only [List.getElem?_toArray, List.getElem?_cons_succ, List.getElem?_cons_zero]; rfl) (by kernel_rfl) (by kernel_rfl) (by kernel_rfl) (by exact fun _ _ _ h => h) (Or.inl ⟨by rfl, ?h14z106x⟩) (by assumption) ?_
                case h14z106x => (intro W hSw; (try dsimp only at hSw); go_simp; try with_reducible rfl)
                try simp only [Act.put, List.setIfInBounds_toArray, List.set_cons_zero, List.set_cons_succ]
                refine wpAnyH_ready (rs := [15]) (by kernel_rfl) (by simp) ?_
                refine AllReadyH.cons (by simp only [List.getElem?_toArray, List.getElem?_cons_succ, List.getElem?_cons_zero]; rfl) (fun K hK => ?_) AllReadyH.nil
                go_simp
                refine (CH.out _ B9.out.drew).mono ?_
                rintro en w10 ⟨rfl, b10⟩
                have DOWN : Hid (Below w9.heap.size w9 w10) := Lib.hid ((Below.refl _ w9).drew.trans b10)
                refine hK _ _ ((DOWN.out.cell G9.out).trans C9.out) (fun hH15 => ?_)
                clear hK K b10
                try simp only [Act.put, List.setIfInBounds_toArray, List.set_cons_zero, List.set_cons_succ]
                refine wpAnyH_take (i := 16) (v := ?v16z106x) (by simp only [List.getElem?_toArray, List.getElem?_cons_succ, List.getElem?_cons_zero]; rfl) (by kernel_rfl) (by kernel_rfl) (by kernel_rfl) (by exact fun _ _ _ h => h) (Or.inl ⟨by rfl, ?h16z106x⟩) (by assumption) ?_
                case h16z106x => (intro W hSw; (try dsimp only at hSw); go_simp; try with_reducible rfl)
                try simp only [Act.put, List.setIfInBounds_toArray, List.set_cons_zero, List.set_cons_succ]
                refine wpAnyH_take (i := 17) (v := ?v17z106x) (by simp only [List.getElem?_toArray, List.getElem?_cons_succ, List.getElem?_cons_zero]; rfl) (by kernel_rfl) (by kernel_rfl) (by kernel_rfl) (by exact fun _ _ _ h => h) (Or.inl ⟨by rfl, ?h17z106x⟩) (by assumption) ?_
                case h17z106x => (intro W hSw; (try dsimp only at hSw); go_simp; try with_reducible rfl)
                try simp only [Act.put, List.setIfInBounds_toArray, List.set_cons_zero, List.set_cons_succ]
                refine wpAnyH_take (i := 18) (v := ?v18z106x) (by simp only [List.getElem?_toArray, List.getElem?_cons_succ, List.getElem?_cons_zero]; rfl) (by kernel_rfl) (by kernel_rfl) (by kernel_rfl) (by exact fun _ _ _ h => h) (Or.inl ⟨by rfl, ?h18z106x⟩) (by assumption) ?_
                case h18z106x => (intro W hSw; (try dsimp only at hSw); go_simp; try with_reducible rfl)
                try simp only [Act.put, List.setIfInBounds_toArray, List.set_cons_zero, List.set_cons_succ]
                refine wpAnyH_take (i := 19) (v := ?v19z106x) (by simp only [List.getElem?_toArray, List.getElem?_cons_succ, List.getElem?_cons_zero]; rfl) (by kernel_rfl) (by kernel_rfl) (by kernel_rfl) (by exact fun _ _ _ h => h) (Or.inl ⟨by rfl, ?h19z106x⟩) (by assumption) ?_
                case h19z106x => (intro W hSw; (try dsimp only at hSw); go_simp; try with_reducible rfl)
                try simp only [Act.put, List.setIfInBounds_toArray, List.set_cons_zero, List.set_cons_succ]
                refine wpAnyH_take (i := 20) (v := ?v20z106x) (by simp only [List.getElem?_toArray, List.getElem?_cons_succ, List.getElem?_cons_zero]; rfl) (by kernel_rfl) (by kernel_rfl) (by kernel_rfl) (by exact fun _ _ _ h => h) (Or.inl ⟨by rfl, ?h20z106x⟩) (by assumption) ?_
                case h20z106x => (intro W hSw; (try dsimp only at hSw); go_simp; try with_reducible rfl)
                try simp only [Act.put, List.setIfInBounds_toArray, List.set_cons_zero, List.set_cons_succ]
                refine wpAnyH_take (i := 21) (v := ?v21z106x) (by simp only [List.getElem?_toArray, List.getElem?_cons_succ, List.getElem?_cons_zero]; rfl) (by kernel_rfl) (by kernel_rfl) (by kernel_rfl) (by exact fun _ _ _ h => h) (Or.inl ⟨by rfl, ?h21z106x⟩) (by assumption) ?_
                case h21z106x => (intro W hSw; (try dsimp only at hSw); go_simp; try with_reducible rfl)
                try simp only [Act.put, List.setIfInBounds_toArray, List.set_cons_zero, List.set_cons_succ]
                refine wpAnyH_take (i := 22) (v := ?v22z106x) (by simp only [List.getElem?_toArray, List.getElem?_cons_succ, List.getElem?_cons_zero]; rfl) (by kernel_rfl) (by kernel_rfl) (by kernel_rfl) (by exact fun _ _ _ h => h) (Or.inl ⟨by rfl, ?h22z106x⟩) (by assumption) ?_
                case h22z106x => (intro W hSw; (try dsimp only at hSw); go_simp; try with_reducible rfl)
                try simp only [Act.put, List.setIfInBounds_toArray, List.set_cons_zero, List.set_cons_succ]
                refine wpAnyH_take (i := 23) (v := ?v23z106x) (by simp only [List.getElem?_toArray, List.getElem?_cons_succ, List.getElem?_cons_zero]; rfl) (by kernel_rfl) (by kernel_rfl) (by kernel_rfl) (by exact fun _ _ _ h => h) (Or.inl ⟨by rfl, ?h23z106x⟩) (by assumption) ?_
                case h23z106x => (intro W hSw; (try dsimp only at hSw); go_simp; try with_reducible rfl)
                try simp only [Act.put, List.setIfInBounds_toArray, List.set_cons_zero, List.set_cons_succ]
                refine wpAnyH_take (i := 24) (by simp only [List.getElem?_toArray, List.getElem?_cons_succ, List.getElem?_cons_zero]; rfl) (by kernel_rfl) (by kernel_rfl) (by kernel_rfl) (by exact fun _ _ _ h => h) (yieldsIf_loadG (by rfl) 3 (.tmp 89) rfl ⟨g14, j2 * 2, none⟩ rfl _ (fun W hW => load_intc hW)) (by assumption) ?_
                try simp only [Act.put, List.setIfInBounds_toArray, List.set_cons_zero, List.set_cons_succ]
                refine wpAnyH_take (i := 25) (v := ?v25z106x) (by simp only [List.getElem?_toArray, List.getElem?_cons_succ, List.getElem?_cons_zero]; rfl) (by kernel_rfl) (by kernel_rfl) (by kernel_rfl) (by exact fun _ _ _ h => h) (Or.inl ⟨by rfl, ?h25z106x⟩) (by assumption) ?_
                case h25z106x => (intro W hSw; (try dsimp only at hSw); go_simp; try with_reducible rfl)
                try simp only [Act.put, List.setIfInBounds_toArray, List.set_cons_zero, List.set_cons_succ]
                refine wpAnyH_take (i := 26) (v := ?v26z106x) (by simp only [List.getElem?_toArray, List.getElem?_cons_succ, List.getElem?_cons_zero]; rfl) (by kernel_rfl) (by kernel_rfl) (by kernel_rfl) (by exact fun _ _ _ h => h) (Or.inl ⟨by rfl, ?h26z106x⟩) (by assumption) ?_
                case h26z106x => (intro W hSw; (try dsimp only at hSw); go_simp; try with_reducible rfl)
                try simp only [Act.put, List.setIfInBounds_toArray, List.set_cons_zero, List.set_cons_succ]
                refine wpAnyH_take (i := 27) (v := ?v27z106x) (by simp only [List.getElem?_toArray, List.getElem?_cons_succ, List.getElem?_cons_zero]; rfl) (by kernel_rfl) (by kernel_rfl) (by kernel_rfl) (by exact fun _ _ _ h => h) (Or.inl ⟨by rfl, ?h27z106x⟩) (by assumption) ?_
                case h27z106x => (intro W hSw; (try dsimp only at hSw); go_simp; try with_reducible rfl)
                try simp only [Act.put, List.setIfInBounds_toArray, List.set_cons_zero, List.set_cons_succ]
                refine wpAnyH_take (i := 28) (v := ?v28z106x) (by simp only [List.getElem?_toArray, List.getElem?_cons_succ, List.getElem?_cons_zero]; rfl) (by kernel_rfl) (by kernel_rfl) (by kernel_rfl) (by exact fun _ _ _ h => h) (Or.inl ⟨by rfl, ?h28z106x⟩) (by assumption) ?_
                case h28z106x => (intro W hSw; (try dsimp only at hSw); go_simp; try with_reducible rfl)
                try simp only [Act.put, List.setIfInBounds_toArray, List.set_cons_zero, List.set_cons_succ]
                refine wpAnyH_take (i := 29) (v := ?v29z106x) (by simp only [List.getElem?_toArray, List.getElem?_cons_succ, List.getElem?_cons_zero]; rfl) (by kernel_rfl) (by kernel_rfl) (by kernel_rfl) (by exact fun _ _ _ h => h) (Or.inl ⟨by rfl, ?h29z106x⟩) (by assumption) ?_
                case h29z106x => (intro W hSw; (try dsimp only at hSw); go_simp; try with_reducible rfl)
                try simp only [Act.put, List.setIfInBounds_toArray, List.set_cons_zero, List.set_cons_succ]
                refine wpAnyH_done (by kernel_rfl) ?_ _
                have CMz : Hid (∀ W, Below w5.heap.size w5 W → PRow W w5.heap.size (.slice (some ⟨g14, 0, none⟩) k c') (l.set j2 ⟨z, some ⟨wr.heap.size, 0, none⟩, sz, sz, zs⟩) → Calls Try.prog 24 #[.pointer (some ⟨g, 0, none⟩), .slice (some ⟨g14, 0, none⟩) k c'] W fun en W' => en = .returned (.int .i64 9) ∧ ∃ p' j' u' V' H', UpJ Z w W' g gd gp 140 p' j' ∧ SJ p' 140 V' j' 1 u' r H') := Lib.hid (fun W hb hp => by
                  have q := CM.out W z hb hp ZB.out
                  rw [BE.out, if_neg (by decide)] at q
                  exact q)
                go_wp2_with (first
                  | (go_at_call 24; refine (CMz.out _ (B9.out.trans (DOWN.out.mono B9.out.size)) (P9.out.below DOWN.out)).mono ?_; rintro e wa ⟨rfl, p', j', u', V', H', ua, sa⟩
                     have UA := Lib.hid ua
                     have SA := Lib.hid sa
                     clear ua sa)
                  | (go_at_call 29; refine (turn_up UA.out SA.out).mono ?_; rintro e wb ⟨rfl, rfl⟩))
                go_ret
                exact ⟨rfl, UA.out.bel⟩
end Go.Proofs.Ytkbbpkbchniddaa
