/-
  Own work. The journal: Format.
-/
import Derived.Test.YtadagbkfemcgfaaGreatJw
namespace Go.Proofs.YtadagbkfemcgfaaGreat
open Go.RowKit Go.Maps
set_option linter.unusedVariables false
set_option linter.unusedSimpArgs false

section
variable {Z : DK} {w w' W W' : World} {g gd n : Nat} {S T : Nat → Prop} {e : Int} {cs : Array Value} {t : TypeId} {m : RM} {p : Pt}
theorem pwr_on (hg : ¬ S g) (hlt : g < w.heap.size) (l : LeftP Z w g gd S n cs t p W) (ok : p.m.Ok n) (hw : p.m.wrote < 1073741824) (i : Int) (s : List UInt8) (hi : -9223372036854775808 ≤ i ∧ i ≤ 9223372036854775807) (hs : s.length = 512) :
    Calls Tryz.prog 50 #[.pointer (some ⟨g, 0, none⟩), .int .i64 i, .agg (cellsB s).toArray] W (fun en W' => en = .returned (.tuple #[]) ∧ LeftP Z w g gd S n cs t (p.wr n i s) W') := by
  obtain ⟨S', d', hg', b', hs', ho'⟩ := l.nog hlt hg
  refine (powr_any p i s d' ok hw hi hs b' hg').mono ?_
  rintro en W' ⟨he, lp⟩
  exact ⟨he, LeftP.trans hs' ho' lp⟩
theorem pfl_on (hg : ¬ S g) (hlt : g < w.heap.size) (l : LeftP Z w g gd S n cs t p W) (ok : p.m.Ok n) :
    Calls Tryz.prog 49 #[.pointer (some ⟨g, 0, none⟩)] W (fun en W' => en = .returned (.tuple #[]) ∧ LeftP Z w g gd S n cs t (p.fl n) W') := by
  obtain ⟨S', d', hg', b', hs', ho'⟩ := l.nog hlt hg
  refine (pofl_any p d' ok b' hg').mono ?_
  rintro en W' ⟨he, lp⟩
  exact ⟨he, LeftP.trans hs' ho' lp⟩
theorem pan_on (hg : ¬ S g) (hlt : g < w.heap.size) (l : LeftP Z w g gd S n cs t p W) (ok : p.m.Ok n) (hw : p.m.wrote < 1073741824) (k : Mk) (hk : k.Fit) :
    Calls Tryz.prog 51 #[.pointer (some ⟨g, 0, none⟩), .agg (mkC k)] W (fun en W' => en = .returned (.tuple #[]) ∧ LeftP Z w g gd S n cs t (p.anchor n k) W') := by
  obtain ⟨S', d', hg', b', hs', ho'⟩ := l.nog hlt hg
  refine (poan_any p k d' ok hw hk b' hg').mono ?_
  rintro en W' ⟨he, lp⟩
  exact ⟨he, LeftP.trans hs' ho' lp⟩
theorem fmtK_succ (p : Pt) (n k : Nat) : fmtK p n (k + 1) = (if k = 2 then (fmtK p n k).fl n else fmtK p n k).wr n (k : Int) zsec := by
  unfold fmtK
  rw [List.range_succ, List.foldl_append]
  rfl
theorem fmtK_ok (p : Pt) (n : Nat) (ok : p.m.Ok n) (k : Nat) (hw : p.m.wrote + k ≤ 1073741823) : (fmtK p n k).m.Ok n ∧ (fmtK p n k).m.wrote ≤ p.m.wrote + k := by
  induction k with
  | zero => exact ⟨ok, Nat.le_refl _⟩
  | succ k ih =>
    obtain ⟨h1, h2⟩ := ih (by omega)
    rw [fmtK_succ]
    split
    · have h3 := Pt.fl_wrote (fmtK p n k) n
      exact ⟨Pt.wr_ok (Pt.fl_ok h1) (by omega) _ _, by have := Pt.wr_wrote ((fmtK p n k).fl n) n (k : Int) zsec; omega⟩
    · exact ⟨Pt.wr_ok h1 (by omega) _ _, by have := Pt.wr_wrote (fmtK p n k) n (k : Int) zsec; omega⟩
/-- What Format leaves. -/
def LeftF (Z : DK) (w : World) (gd : Nat) (S : Nat → Prop) (n : Nat) (m : RM) (w' : World) : Prop := ∃ S', Z.D w' gd S' n m ∧ (∀ k, S' k → S k ∨ w.heap.size ≤ k) ∧ Only S w w'
set_option maxRecDepth 100000 in
set_option maxHeartbeats 2000000 in
theorem format_any (ring : Nat) (d : Z.D w gd S n m) (ok : m.Ok n) (hw : m.wrote ≤ 1073730000) (h8 : 8 ≤ ring) (h1k : ring ≤ 1024) (hn : ring + 10 ≤ n) :
    Calls Tryz.prog 35 #[.pointer (some ⟨gd, 0, none⟩), .int .i64 (ring : Int)] w (fun en w' => en = .returned (.int .i64 (fmtP m n ring).e) ∧ LeftF Z w gd S n (fmtP m n ring).m w') := by
  have n2 := ok.n2
  have CFi := Lib.hid (fits_any (ring : Int) d ok (by omega))
  have hfit : fitsB n (ring : Int) = true := by unfold fitsB; rw [decide_eq_true_iff]; omega
  rw [hfit] at CFi
  have CL := Lib.hid (Z.len_q d ok)
  obtain ⟨w0, hw0⟩ : ∃ w0, w.alloc (.cells #[.pointer (some ⟨gd, 0, none⟩), .int .i64 0] 96) = w0 := ⟨_, rfl⟩
  have hb : Below w.heap.size w w0 := by rw [← hw0]; exact (Below.refl _ _).alloc (Nat.le_refl _) _
  have h0 : w0.heap[w.heap.size]? = some (.cells #[.pointer (some ⟨gd, 0, none⟩), .int .i64 0] 96 (0, 0)) := by rw [← hw0]; exact heap_alloc_new w _
  have hlt : w.heap.size < w0.heap.size := (Array.getElem?_eq_some_iff.1 h0).1
  have hb0 : PoB w0 w.heap.size gd 0 #[.pointer (some ⟨gd, 0, none⟩), .int .i64 0] 96 := ⟨h0, rfl, rfl⟩
  have d0 : Z.D w0 gd S n m := Z.only d (Only.of_below (S := fun _ => False) hb (Nat.le_refl _)) (fun _ _ h => h)
  have CL0 : Hid (Calls Tryz.prog 48 #[.pointer (some ⟨gd, 0, none⟩)] w0 fun e w' => e = .returned (.int .i64 (n : Int)) ∧ w0 = w') := Lib.hid (Z.len_q d0 ok)
  have hS : ¬ S w.heap.size := fun hh => by have := Z.lt d _ hh; omega
  have l0 : LeftP Z w0 w.heap.size gd S n #[.pointer (some ⟨gd, 0, none⟩), .int .i64 0] 96 (fmtK ⟨m, 0⟩ n 0) w0 := LeftP.same d0 hb0
  have FO : Hid (∀ k : Nat, k ≤ n → (fmtK ⟨m, 0⟩ n k).m.Ok n ∧ (fmtK ⟨m, 0⟩ n k).m.wrote ≤ m.wrote + k) := Lib.hid (fun k hk => fmtK_ok ⟨m, 0⟩ n ok k (by show m.wrote + k ≤ _; omega))
  have HS := Lib.hid hS
  have L0 := Lib.hid l0
  have B0 := Lib.hid hb
  have W0 := Lib.hid hw0
  have SLT : Hid (∀ k, S k → k < w.heap.size) := Lib.hid (fun k hk => Z.lt d k hk)
  clear d ok hfit hb h0 hb0 d0 hS l0 hw0
  go_enter Tryz.func35, Tryz.ntmps35
  go_upto_region 4 with (go_at_call 47; refine CFi.out.mono ?_; rintro en w1 ⟨rfl, rfl⟩)
  rw [W0.out]
  go_wp2_with (go_at_call 48; refine CL0.out.mono ?_; rintro en w1 ⟨rfl, rfl⟩)
  go_loopw [15] (fun i wr => ∃ k : Nat, k ≤ n ∧ i = .int .i64 (k : Int) ∧ LeftP Z w0 w.heap.size gd S n #[.pointer (some ⟨gd, 0, none⟩), .int .i64 0] 96 (fmtK ⟨m, 0⟩ n k) wr) (fun i _ => n - (Go.RowKit.intOf i).toNat)
  case atStart => exact ⟨0, by omega, rfl, L0.out⟩
  case round =>
    obtain ⟨k, hk, rfl, ql⟩ := hrel
    have hok := FO.out k hk
    have QL := Lib.hid ql
    clear ql
    by_cases hlt' : k < n
    · have hs := fmtK_succ ⟨m, 0⟩ n k
      by_cases h2 : k = 2
      · rw [if_pos h2] at hs
        have CF : Hid (∀ W, LeftP Z w0 w.heap.size gd S n #[.pointer (some ⟨gd, 0, none⟩), .int .i64 0] 96 (fmtK ⟨m, 0⟩ n k) W → Calls Tryz.prog 49 #[.pointer (some ⟨w.heap.size, 0, none⟩)] W (fun en W' => en = .returned (.tuple #[]) ∧ LeftP Z w0 w.heap.size gd S n #[.pointer (some ⟨gd, 0, none⟩), .int .i64 0] 96 ((fmtK ⟨m, 0⟩ n k).fl n) W')) := Lib.hid (fun W hW => pfl_on HS.out hlt hW hok.1)
        have CW : Hid (∀ W, LeftP Z w0 w.heap.size gd S n #[.pointer (some ⟨gd, 0, none⟩), .int .i64 0] 96 ((fmtK ⟨m, 0⟩ n k).fl n) W → Calls Tryz.prog 50 #[.pointer (some ⟨w.heap.size, 0, none⟩), .int .i64 (k : Int), .agg (cellsB zsec).toArray] W (fun en W' => en = .returned (.tuple #[]) ∧ LeftP Z w0 w.heap.size gd S n #[.pointer (some ⟨gd, 0, none⟩), .int .i64 0] 96 (fmtK ⟨m, 0⟩ n (k + 1)) W')) := Lib.hid (fun W hW => by
          have := pwr_on HS.out hlt hW (Pt.fl_ok hok.1) (by have := Pt.fl_wrote (fmtK ⟨m, 0⟩ n k) n; have := hok.2; omega) (k : Int) zsec (by omega) zsec_len
          rw [← hs] at this
          exact this)
        have h2' : ((k : Int) == 2) = true := by rw [h2]; rfl
        clear hs hok h2
        go_wp2_with (first
          | (go_at_call 49; refine (CF.out _ QL.out).mono ?_; rintro en w5 ⟨rfl, l5⟩
             have L5 := Lib.hid l5
             clear l5)
          | (refine wpList_buildG rfl 98 rfl (cellsB zsec).toArray built_zsec ?_)
          | (go_at_call 50; refine (CW.out _ L5.out).mono ?_; rintro en w6 ⟨rfl, l6⟩
             have L6 := Lib.hid l6
             clear l6))
        go_roundw
        case rel => exact ⟨k + 1, by omega, by go_num, L6.out⟩
        case measure => simp [Go.RowKit.intOf]; omega
      · rw [if_neg h2] at hs
        have CW : Hid (∀ W, LeftP Z w0 w.heap.size gd S n #[.pointer (some ⟨gd, 0, none⟩), .int .i64 0] 96 (fmtK ⟨m, 0⟩ n k) W → Calls Tryz.prog 50 #[.pointer (some ⟨w.heap.size, 0, none⟩), .int .i64 (k : Int), .agg (cellsB zsec).toArray] W (fun en W' => en = .returned (.tuple #[]) ∧ LeftP Z w0 w.heap.size gd S n #[.pointer (some ⟨gd, 0, none⟩), .int .i64 0] 96 (fmtK ⟨m, 0⟩ n (k + 1)) W')) := Lib.hid (fun W hW => by
          have := pwr_on HS.out hlt hW hok.1 (by have := hok.2; omega) (k : Int) zsec (by omega) zsec_len
          rw [← hs] at this
          exact this)
        have h2' : ((k : Int) == 2) = false := by rw [beq_eq_false_iff_ne]; omega
        clear hs hok
        go_wp2_with (first
          | (refine wpList_buildG rfl 98 rfl (cellsB zsec).toArray built_zsec ?_)
          | (go_at_call 50; refine (CW.out _ QL.out).mono ?_; rintro en w6 ⟨rfl, l6⟩
             have L6 := Lib.hid l6
             clear l6))
        go_roundw
        case rel => exact ⟨k + 1, by omega, by go_num, L6.out⟩
        case measure => simp [Go.RowKit.intOf]; omega
    · obtain rfl : k = n := by omega
      have ha : LeftP Z w0 w.heap.size gd S k #[.pointer (some ⟨gd, 0, none⟩), .int .i64 0] 96 (fmtK ⟨m, 0⟩ k k) wr := QL.out
      have CF : Hid (∀ W, LeftP Z w0 w.heap.size gd S k #[.pointer (some ⟨gd, 0, none⟩), .int .i64 0] 96 (fmtK ⟨m, 0⟩ k k) W → Calls Tryz.prog 49 #[.pointer (some ⟨w.heap.size, 0, none⟩)] W (fun en W' => en = .returned (.tuple #[]) ∧ LeftP Z w0 w.heap.size gd S k #[.pointer (some ⟨gd, 0, none⟩), .int .i64 0] 96 ((fmtK ⟨m, 0⟩ k k).fl k) W')) := Lib.hid (fun W hW => pfl_on HS.out hlt hW hok.1)
      have CA : Hid (∀ W, LeftP Z w0 w.heap.size gd S k #[.pointer (some ⟨gd, 0, none⟩), .int .i64 0] 96 ((fmtK ⟨m, 0⟩ k k).fl k) W → Calls Tryz.prog 51 #[.pointer (some ⟨w.heap.size, 0, none⟩), .agg #[.int .u64 1, .int .u64 1, .int .u32 0, .int .u32 (ring : Int)]] W (fun en W' => en = .returned (.tuple #[]) ∧ LeftP Z w0 w.heap.size gd S k #[.pointer (some ⟨gd, 0, none⟩), .int .i64 0] 96 (fmtP m k ring) W')) := Lib.hid (fun W hW => pan_on HS.out hlt hW (Pt.fl_ok hok.1) (by have := Pt.fl_wrote (fmtK ⟨m, 0⟩ k k) k; have := hok.2; omega) ⟨1, 1, 0, ring⟩ ⟨by show 1 < _; omega, by show 1 < _; omega, by show 0 < _; omega, by show ring < _; omega⟩)
      have er : IntKind.u32.wrap (ring : Int) = (ring : Int) := by rw [IntKind.wrap_u32]; omega
      obtain ⟨P, hP⟩ : ∃ P, fmtP m k ring = P := ⟨_, rfl⟩
      obtain ⟨P0, hP0⟩ : ∃ P0, (fmtK ⟨m, 0⟩ k k).fl k = P0 := ⟨_, rfl⟩
      rw [hP0] at CF CA
      rw [hP] at CA
      have HP := Lib.hid hP
      clear ha hok hP0 hP
      go_wp2_with (first
        | (go_at_call 49; refine (CF.out _ QL.out).mono ?_; rintro en w5 ⟨rfl, l5⟩
           have L5 := Lib.hid l5
           clear l5)
        | (go_at_call 51; refine (CA.out _ L5.out).mono ?_; rintro en w6 ⟨rfl, l6⟩
           obtain ⟨S', d', hg', b', hs', ho'⟩ := l6.nog hlt HS.out
           have e6 := b'.er
           have D6 := Lib.hid d'
           have S6 := Lib.hid hs'
           have O6 := Lib.hid ho'
           clear l6 d' hg' b' hs' ho'))
      go_ret
      rw [HP.out]
      refine ⟨rfl, S', D6.out, fun k hk => (S6.out k hk).imp id (fun h => Nat.le_trans B0.out.size h), (Only.of_below B0.out (Nat.le_refl _)).trans' O6.out (fun k hk hT => ?_)⟩
      rcases hT with h1 | h1
      · exact h1
      · omega
end
end Go.Proofs.YtadagbkfemcgfaaGreat
