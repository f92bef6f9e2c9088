/-
  Own work. What a nil journal and a zero one answer.
-/
import Derived.Test.YthfmkdeglceppaaNo
namespace Go.Proofs.Ythfmkdeglceppaa
open Go.RowKit Go.Maps
set_option linter.unusedVariables false
set_option linter.unusedSimpArgs false

/-- A pointer to no journal: nil, or to one without a disk. -/
def NoJ (w : World) (p : Option Addr) : Prop := p = none ∨ ∃ g, p = some ⟨g, 0, none⟩ ∧ w.cell? ⟨g, 0, none⟩ = some (.pointer none)
section
variable {w : World} {p : Option Addr}
theorem noj_isNone (h : NoJ w p) : Calls Try.prog 56 #[.pointer p] w (RetW w (.bool true)) := by
  rcases h with rfl | ⟨g, rfl, hc⟩
  · exact jnone_nil w
  · exact jnone_zero w hc
set_option maxRecDepth 100000 in
theorem noj_check (h : NoJ w p) : Calls Try.prog 57 #[.pointer p] w (RetW w (.int .i64 1)) := by
  have N := Lib.hid (noj_isNone h)
  clear h
  go_enter Try.func57, Try.ntmps57
  go_wp2_with (first
    | (go_at_call 56; refine N.out.mono ?_; rintro e w1 ⟨rfl, rfl⟩))
  go_ret
  exact ⟨rfl, rfl⟩
set_option maxRecDepth 100000 in
theorem noj_homes (h : NoJ w p) : Calls Try.prog 38 #[.pointer p] w (RetW w (.int .i64 0)) := by
  have N := Lib.hid (noj_isNone h)
  clear h
  go_enter Try.func38, Try.ntmps38
  go_wp2_with (first
    | (go_at_call 56; refine N.out.mono ?_; rintro e w1 ⟨rfl, rfl⟩))
  go_ret
  exact ⟨rfl, rfl⟩
set_option maxRecDepth 100000 in
theorem noj_free (h : NoJ w p) : Calls Try.prog 53 #[.pointer p] w (RetW w (.int .i64 0)) := by
  have N := Lib.hid (noj_isNone h)
  clear h
  go_enter Try.func53, Try.ntmps53
  go_wp2_with (first
    | (go_at_call 56; refine N.out.mono ?_; rintro e w1 ⟨rfl, rfl⟩))
  go_ret
  exact ⟨rfl, rfl⟩
set_option maxRecDepth 100000 in
theorem noj_turn (h : NoJ w p) : Calls Try.prog 26 #[.pointer p] w (RetW w (.int .u64 0)) := by
  have N := Lib.hid (noj_isNone h)
  clear h
  go_enter Try.func26, Try.ntmps26
  go_wp2_with (first
    | (go_at_call 56; refine N.out.mono ?_; rintro e w1 ⟨rfl, rfl⟩))
  go_ret
  exact ⟨rfl, rfl⟩
set_option maxRecDepth 100000 in
theorem noj_read (h : NoJ w p) : Calls Try.prog 28 #[.pointer p, .int .i64 0] w (RetW w (.tuple #[.slice none 0 0, .int .i64 1])) := by
  have N := Lib.hid (noj_check h)
  clear h
  go_enter Try.func28, Try.ntmps28
  go_wp2_with (first
    | (go_at_call 57; refine N.out.mono ?_; rintro e w1 ⟨rfl, rfl⟩))
  go_ret2
  exact ⟨rfl, rfl⟩
set_option maxRecDepth 100000 in
theorem noj_ck (h : NoJ w p) : Calls Try.prog 48 #[.pointer p] w (RetW w (.int .i64 1)) := by
  have N := Lib.hid (noj_check h)
  clear h
  go_enter Try.func48, Try.ntmps48
  go_wp2_with (first
    | (go_at_call 57; refine N.out.mono ?_; rintro e w1 ⟨rfl, rfl⟩))
  go_ret
  exact ⟨rfl, rfl⟩
set_option maxRecDepth 100000 in
theorem noj_list (h : NoJ w p) : Calls Try.prog 51 #[.pointer p, .slice none 0 0] w (RetW w (.int .i64 1)) := by
  have N := Lib.hid (noj_check h)
  clear h
  go_enter Try.func51, Try.ntmps51
  go_wp2_with (first
    | (go_at_call 57; refine N.out.mono ?_; rintro e w1 ⟨rfl, rfl⟩))
  go_ret
  exact ⟨rfl, rfl⟩
set_option maxRecDepth 100000 in
theorem noj_commit (h : NoJ w p) : Calls Try.prog 21 #[.pointer p, .slice none 0 0] w (RetW w (.int .i64 1)) := by
  have N := Lib.hid (noj_list h)
  clear h
  go_enter Try.func21, Try.ntmps21
  go_wp2_with (first
    | (go_at_call 51; refine N.out.mono ?_; rintro e w1 ⟨rfl, rfl⟩))
  go_ret
  exact ⟨rfl, rfl⟩
end
set_option maxRecDepth 100000 in
theorem fits_nil (w : World) : Calls Try.prog 39 #[.pointer none, .int .i64 8] w (RetW w (.bool false)) := by
  have C := Lib.hid (none_len (w := w) (p := none) (.inl rfl))
  go_enter Try.func39, Try.ntmps39
  go_wp2_with (go_at_call 40; refine C.out.mono ?_; rintro e w1 ⟨rfl, rfl⟩)
  go_ret
  exact ⟨rfl, rfl⟩
set_option maxRecDepth 100000 in
theorem wfits_no {w : World} {f : Option Addr} (ring : Int) (h : Calls Try.prog 39 #[.pointer f, .int .i64 ring] w (RetW w (.bool false))) : Calls Try.prog 14 #[.pointer f, .int .i64 ring] w (RetW w (.int .i64 1)) := by
  have N := Lib.hid h
  clear h
  go_enter Try.func14, Try.ntmps14
  go_wp2_with (first
    | (go_at_call 39; refine N.out.mono ?_; rintro e w1 ⟨rfl, rfl⟩))
  go_ret
  exact ⟨rfl, rfl⟩
/-- A new disk has no journal. -/
theorem open_new {Z : DK} {w0 W : World} {gd : Nat} (a : OnD Z w0 W gd 40 (newM 40)) : Calls Try.prog 15 #[.pointer (some ⟨gd, 0, none⟩)] W fun en W' => en = .returned (.tuple #[.pointer none, .int .i64 5]) ∧ OnD Z w0 W' gd 40 (newM 40) := by
  obtain ⟨S, d⟩ := a
  obtain ⟨q, _⟩ := QP.new 40 (by omega) (by omega)
  have hre : ∀ i : Nat, i < 2 → (⟨newM 40, 0⟩ : Pt).m.readE 40 (i : Int) = 0 := fun i hi => q.rE (by omega)
  have hE : (nwP ⟨newM 40, 0⟩ 40 2).e = 0 := by rw [nwP_ok rfl 2 hre]
  have r0 : lst ((newM 40).readS 40 ((0 : Nat) : Int)) = zsec := q.rd (i := 0) (by omega)
  have r1 : lst ((newM 40).readS 40 ((1 : Nat) : Int)) = zsec := q.rd (i := 1) (by omega)
  have hK : nwM ⟨newM 40, 0⟩ 40 2 = ⟨0, 0, 0, 0⟩ := by
    rw [nwM_ok rfl 2 hre]
    show newK (newM 40) 40 2 = _
    have n1 : newK (newM 40) 40 1 = ⟨0, 0, 0, 0⟩ := by
      show (if markB 40 (lst ((newM 40).readS 40 ((0 : Nat) : Int))) = true ∧ _ < tagOf (lst ((newM 40).readS 40 ((0 : Nat) : Int))) then markS (lst ((newM 40).readS 40 ((0 : Nat) : Int))) else _) = _
      rw [r0, zsec_bad, if_neg (fun h => by cases h.1)]
      rfl
    show (if markB 40 (lst ((newM 40).readS 40 ((1 : Nat) : Int))) = true ∧ _ < tagOf (lst ((newM 40).readS 40 ((1 : Nat) : Int))) then markS (lst ((newM 40).readS 40 ((1 : Nat) : Int))) else newK (newM 40) 40 1) = _
    rw [r1, zsec_bad, if_neg (fun h => by cases h.1), n1]
  refine (open_none d.d q.ok 0 hE ⟨0, 0, 0, 0⟩ hK rfl rfl).mono ?_
  rintro en W' ⟨he, S', d', hs', ho⟩
  exact ⟨he, S', d', fun k hk => (hs' k hk).elim (d.s0 k) (fun h => Nat.le_trans d.bel.size h), d.bel.trans (ho.to_below d.s0 d.bel.size)⟩
/-- A ring that does not fit. -/
theorem format_no {Z : DK} {w0 W : World} {gd : Nat} (a : OnD Z w0 W gd 32 (newM 32)) : Calls Try.prog 14 #[.pointer (some ⟨gd, 0, none⟩), .int .i64 23] W (RetW W (.int .i64 1)) := by
  obtain ⟨S, d⟩ := a
  have h := fits_any 23 d.d (newM_ok 32 (by omega) (by omega)) (by omega)
  have e : fitsB 32 23 = false := by decide
  rw [e] at h
  exact wfits_no 23 h
theorem format_ok {Z : DK} {w0 W : World} {gd : Nat} (a : OnD Z w0 W gd 32 (newM 32)) : Calls Try.prog 14 #[.pointer (some ⟨gd, 0, none⟩), .int .i64 22] W fun en W' => en = .returned (.int .i64 0) ∧ Below w0.heap.size w0 W' := by
  obtain ⟨q, _⟩ := QP.new 32 (by omega) (by omega)
  have ds := DS.fmt q (by omega) 22 (by omega) (by omega) (by omega)
  have he : (fmtP (newM 32) 32 22).e = 0 := by obtain ⟨j, u, b⟩ := ds; exact (b.jok (by omega)).2.2.1
  have := format_up a 22 q.ok (by show 0 ≤ _; omega) (by omega) (by omega) (by omega)
  rw [he] at this
  refine this.mono ?_
  rintro en W' ⟨h1, h2⟩
  exact ⟨h1, h2.bel⟩
end Go.Proofs.Ythfmkdeglceppaa
