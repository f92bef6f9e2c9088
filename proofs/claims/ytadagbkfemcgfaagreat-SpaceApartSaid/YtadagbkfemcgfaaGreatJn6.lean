/-
  Own work. The journal: Checkpoint in one contract; Commit.
-/
import Derived.Test.YtadagbkfemcgfaaGreatJk
import Derived.Test.YtadagbkfemcgfaaGreatJl
namespace Go.Proofs.YtadagbkfemcgfaaGreat
open Go.RowKit Go.Maps
set_option linter.unusedVariables false
set_option linter.unusedSimpArgs false

section
variable {Z : DK} {w w' W W' : World} {g gd gp n : Nat} {S T : Nat → Prop} {e : Int} {j : JM} {m : RM} {p : Pt}
theorem LeftJ.drewN {k : Nat} (d : Z.D w gd S n p.m) (h : JO w g gd gp n p.e j) : LeftJ Z w g gd gp n S p j (w.drewN k) :=
  LeftJ.below ⟨rfl, rfl, rfl, Nat.le_refl _, fun _ _ => rfl⟩ d h
theorem jck_any (h : JO w g gd gp n p.e j) (d : Z.D w gd S n p.m) (a : Apart w g gp S) (ok : p.m.Ok n) (hw : p.m.wrote ≤ 1073730000) (hc : chkE p j = 0) :
    Calls Tryz.prog 56 #[.pointer (some ⟨g, 0, none⟩)] w (fun en w' => en = .returned (.int .i64 (ckE p n j)) ∧ LeftJ Z w g gd gp n S (ckP p n j) (ckJ p n j) w') := by
  have hfl := h.ok.fl
  by_cases hf : frK j.fresh (j.homes n) = []
  · have e1 : ckE p n j = 0 := by unfold ckE; rw [hfl, if_pos hf]
    have e2 : ckP p n j = p := by unfold ckP; rw [hfl, if_pos hf]
    have e3 : ckJ p n j = j := by unfold ckJ; rw [hfl, if_pos hf]
    rw [e1, e2, e3]
    refine (jck_none h d ok hc hf).mono ?_
    rintro en w' ⟨he, k, rfl⟩
    exact ⟨he, LeftJ.drewN d h⟩
  · by_cases hn : 4611686018427387904 ≤ j.k.num
    · have hx : j.k.num ≥ 4611686018427387904 ∨ j.k.turn ≥ 4611686018427387904 := .inl hn
      have e1 : ckE p n j = 7 := by unfold ckE; rw [hfl, if_neg hf, if_pos hx]
      have e2 : ckP p n j = p := by unfold ckP; rw [hfl, if_neg hf, if_pos hx]
      have e3 : ckJ p n j = j := by unfold ckJ; rw [hfl, if_neg hf, if_pos hx]
      rw [e1, e2, e3]
      refine (jck_full1 h d ok hc hf hn).mono ?_
      rintro en w' ⟨he, k, rfl⟩
      exact ⟨he, LeftJ.drewN d h⟩
    · by_cases ht : 4611686018427387904 ≤ j.k.turn
      · have hx : j.k.num ≥ 4611686018427387904 ∨ j.k.turn ≥ 4611686018427387904 := .inr ht
        have e1 : ckE p n j = 7 := by unfold ckE; rw [hfl, if_neg hf, if_pos hx]
        have e2 : ckP p n j = p := by unfold ckP; rw [hfl, if_neg hf, if_pos hx]
        have e3 : ckJ p n j = j := by unfold ckJ; rw [hfl, if_neg hf, if_pos hx]
        rw [e1, e2, e3]
        refine (jck_full2 h d ok hc hf (by omega) ht).mono ?_
        rintro en w' ⟨he, k, rfl⟩
        exact ⟨he, LeftJ.drewN d h⟩
      · have hx : ¬ (j.k.num ≥ 4611686018427387904 ∨ j.k.turn ≥ 4611686018427387904) := by omega
        have e1 : ckE p n j = (cpP p n j).e := by unfold ckE; rw [hfl, if_neg hf, if_neg hx]
        have e2 : ckP p n j = cpP p n j := by unfold ckP; rw [hfl, if_neg hf, if_neg hx]
        have e3 : ckJ p n j = if (cpP p n j).e = 0 then j.clean else j := by unfold ckJ; rw [hfl, if_neg hf, if_neg hx]
        rw [e1, e2, e3]
        exact jck_go h d a ok hw hc hf (by omega) (by omega)
theorem ckP_ok (ok : p.m.Ok n) (h : j.Ok n) (n2 : n ≤ 4096) (hw : p.m.wrote ≤ 1073730000) : (ckP p n j).m.Ok n ∧ (ckP p n j).m.wrote ≤ p.m.wrote + 4200 := by
  have hl := frK_len j.fresh j.fresh.length
  have hfl := h.fl
  have hh : j.homes n ≤ 4096 := by show n - 2 - j.k.ring ≤ 4096; omega
  unfold ckP
  split
  · exact ⟨ok, by omega⟩
  · split
    · exact ⟨ok, by omega⟩
    · have h1 := cpK_ok p n j ok (frK j.fresh j.fresh.length) (by omega)
      have h2 := Pt.fl_wrote (cpK p n j (frK j.fresh j.fresh.length)) n
      have h3 := Pt.fl_ok h1.1
      unfold cpP Pt.anchor
      have h4 := Pt.wr_wrote ((cpK p n j (frK j.fresh j.fresh.length)).fl n) n ((j.next.num % 2 : Nat) : Int) j.next.anc
      have h5 := Pt.fl_wrote (((cpK p n j (frK j.fresh j.fresh.length)).fl n).wr n ((j.next.num % 2 : Nat) : Int) j.next.anc) n
      exact ⟨Pt.fl_ok (Pt.wr_ok h3 (by omega) _ _), by omega⟩
theorem ckJ_k (p : Pt) (n : Nat) (j : JM) : (ckJ p n j).k.turn = j.k.turn ∧ (ckJ p n j).k.ring = j.k.ring ∧ ((ckJ p n j).used = j.used ∨ (ckJ p n j).used = 0) := by
  unfold ckJ
  split
  · exact ⟨rfl, rfl, .inl rfl⟩
  · split
    · exact ⟨rfl, rfl, .inl rfl⟩
    · split
      · exact ⟨rfl, rfl, .inr rfl⟩
      · exact ⟨rfl, rfl, .inl rfl⟩
set_option maxRecDepth 100000 in
theorem jlist_closed (A : Option Addr) (nl cl : Nat) (h : JO w g gd gp n p.e j) (d : Z.D w gd S n p.m) (ok : p.m.Ok n) (hc : chkE p j ≠ 0) :
    Calls Tryz.prog 57 #[.pointer (some ⟨g, 0, none⟩), .slice A nl cl] w (RetV2 w (.int .i64 8)) := by
  have C := Lib.hid (jcheck_any h d ok)
  have h8 : chkE ⟨p.m, p.e⟩ j = 8 := by
    have h9 : chkE ⟨p.m, p.e⟩ j = if p.e ≠ 0 ∨ p.m.powers ≠ j.lives then 8 else 0 := rfl
    rw [h9]
    split
    · rfl
    · rename_i hh
      exact absurd (show chkE p j = 0 by unfold chkE; rw [if_neg hh]) hc
  rw [h8] at C
  clear h d ok hc h8
  go_enter Tryz.func57, Tryz.ntmps57
  go_wp2_with (go_at_call 65; refine C.out.mono ?_; rintro en w1 ⟨rfl, k, rfl⟩)
  go_ret
  exact ⟨rfl, ⟨rfl, rfl, rfl, Nat.le_refl _, fun _ _ => rfl⟩⟩
/-- A commit that ends ahead of the ring: closed, refused, empty, or at the last turn. -/
def endE (p : Pt) (n : Nat) (j : JM) (l : List Pu) : Option Int :=
  if chkE p j ≠ 0 then some 8 else if lstE n j l ≠ 0 then some (lstE n j l) else if l = [] then some 0 else if j.k.turn ≥ 4611686018427387903 then some 7 else none
set_option maxRecDepth 100000 in
theorem jcommit_end (A : Option Addr) (nl cl : Nat) (l : List Pu) (h : JO w g gd gp n p.e j) (d : Z.D w gd S n p.m) (ok : p.m.Ok n) (hp : HasPu w A nl l) (hn : nl ≤ 1000) (hdl : ∀ x ∈ l, x.data.length ≤ 1073741824) (x : Int) (hx : endE p n j l = some x) :
    Calls Tryz.prog 37 #[.pointer (some ⟨g, 0, none⟩), .slice A nl cl] w (RetV2 w (.int .i64 x)) := by
  have hnl := hp.1
  have H := Lib.hid h
  by_cases h1 : chkE p j ≠ 0
  · have C := Lib.hid (jlist_closed A nl cl h d ok h1)
    have hx8 : x = 8 := by unfold endE at hx; rw [if_pos h1] at hx; injection hx with hx; exact hx.symm
    subst hx8
    clear hx h1 h d ok hp hdl hnl
    go_enter Tryz.func37, Tryz.ntmps37
    go_wp2_with (go_at_call 57; refine C.out.mono ?_; rintro en w1 ⟨rfl, b1⟩)
    go_ret
    exact ⟨rfl, b1⟩
  · have hc : chkE p j = 0 := Decidable.not_not.1 h1
    have C := Lib.hid (jlist_any A nl cl l h d ok hc hp hn hdl)
    by_cases h2 : lstE n j l ≠ 0
    · have hx8 : x = lstE n j l := by unfold endE at hx; rw [if_neg h1, if_pos h2] at hx; injection hx with hx; exact hx.symm
      obtain ⟨y, hy⟩ : ∃ y, lstE n j l = y := ⟨_, rfl⟩
      rw [hy] at C h2 hx8
      subst hx8
      have hb : (x != 0) = true := by rw [bne_iff_ne]; exact h2
      clear hx h1 h2 h d ok hp hdl hnl hc hy
      go_enter Tryz.func37, Tryz.ntmps37
      go_wp2_with (go_at_call 57; refine C.out.mono ?_; rintro en w1 ⟨rfl, b1⟩)
      go_ret
      exact ⟨rfl, b1⟩
    · have hl0 : lstE n j l = 0 := Decidable.not_not.1 h2
      rw [hl0] at C
      by_cases h3 : l = []
      · have hx8 : x = 0 := by unfold endE at hx; rw [if_neg h1, if_neg h2, if_pos h3] at hx; injection hx with hx; exact hx.symm
        subst hx8
        have hn0 : nl = 0 := by rw [hnl, h3]; rfl
        subst hn0
        clear hx h1 h2 h d ok hp hdl hnl hc hl0 h3
        go_enter Tryz.func37, Tryz.ntmps37
        go_wp2_with (go_at_call 57; refine C.out.mono ?_; rintro en w1 ⟨rfl, b1⟩)
        go_ret
        exact ⟨rfl, b1⟩
      · have h4 : j.k.turn ≥ 4611686018427387903 := by
          unfold endE at hx
          rw [if_neg h1, if_neg h2, if_neg h3] at hx
          split at hx
          · assumption
          · cases hx
        have hx8 : x = 7 := by unfold endE at hx; rw [if_neg h1, if_neg h2, if_neg h3, if_pos h4] at hx; injection hx with hx; exact hx.symm
        subst hx8
        have hn0 : ((nl : Int) == 0) = false := by
          rw [beq_eq_false_iff_ne]
          have : 0 < l.length := List.length_pos_iff.2 h3
          omega
        have h4' : (4611686018427387903 : Int) ≤ (j.k.turn : Int) := by omega
        clear hx h1 h2 h d ok hp hdl hnl hc hl0 h3 h4
        go_enter Tryz.func37, Tryz.ntmps37
        go_wp2_with (first
          | (go_at_call 57; refine C.out.mono ?_; rintro en w1 ⟨rfl, b1⟩; have c3 := (H.out.below b1).c3; have B1 := Lib.hid b1; clear b1))
        go_ret
        exact ⟨rfl, B1.out⟩
end
end Go.Proofs.YtadagbkfemcgfaaGreat
