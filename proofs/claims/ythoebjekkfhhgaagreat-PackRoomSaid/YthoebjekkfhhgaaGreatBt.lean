/-
  Own work.
-/
import Derived.Test.YthoebjekkfhhgaaGreatCp9
import Derived.Test.YthoebjekkfhhgaaGreatQ8
set_option linter.unusedVariables false
set_option linter.unusedSimpArgs false
set_option maxRecDepth 100000
set_option maxHeartbeats 8000000
namespace Go.Proofs.YthoebjekkfhhgaaGreat
open Go.RowKit Go.Maps
theorem getD_set8 (l : List ByteArray) (i j : Nat) (s : ByteArray) (hi : i < l.length) : (l.set i s).getD j emp = if j = i then s else l.getD j emp := by
 rw [List.getD, List.getElem?_set]
 by_cases h : i = j
 · rw [if_pos h, if_pos hi, if_pos h.symm]; rfl
 · rw [if_neg h, if_neg (fun e => h e.symm)]; rfl
theorem fmtW_get (h : Nat) (hh : 4 <= h) (i : Nat) : (fmtW h 4).getD i emp = if i < 4 then strB (fmtS i) else emp := by
 have s : ∀ k, k < 4 -> (fmtW h (k + 1)).getD i emp = if i = k then strB (fmtS k) else (fmtW h k).getD i emp := fun k hk => by
  rw [show fmtW h (k + 1) = (fmtW h k).set k (strB (fmtS k)) from rfl]
  exact getD_set8 _ _ _ _ (by rw [fmtW_len]; omega)
 rw [s 3 (by omega), s 2 (by omega), s 1 (by omega), s 0 (by omega), show (fmtW h 0).getD i emp = emp from (by rw [show fmtW h 0 = List.replicate h emp from rfl, List.getD, List.getElem?_replicate]; split <;> rfl)]
 by_cases h3 : i = 3
 · subst h3; rfl
 by_cases h2 : i = 2
 · subst h2; rfl
 by_cases h1 : i = 1
 · subst h1; rfl
 by_cases h0 : i = 0
 · subst h0; rfl
 rw [if_neg h3, if_neg h2, if_neg h1, if_neg h0, if_neg (by omega)]
def F8 (h : Nat) : Nat -> List UInt8 := txH (fun _ => zsec) (fmtW h 4)
theorem F8_at {h : Nat} (hh : 4 <= h) (k : Nat) : F8 h k = if k < 4 then fmtS k else zsec := by
 unfold F8 txH
 rw [fmtW_get h hh]
 by_cases hk : k < 4
 · rw [if_pos hk, if_pos (strB_ne (fmtS_len k)), if_pos hk]; exact lst_strB _
 · rw [if_neg hk, if_neg (fun h => h rfl), if_neg hk]
theorem F8_len {h : Nat} (hh : 4 <= h) (k : Nat) : (F8 h k).length = 512 := by
 rw [F8_at hh]
 split
 · exact fmtS_len k
 · exact zsec_len
def RetBt (Z : DK) (w0 : World) (n r : Nat) (en : Ending) (W' : World) : Prop :=
 ∃ g gd gp gt, en = .returned (.tuple #[.pointer (some ⟨g, 0, none⟩), .pointer (some ⟨gt, 0, none⟩)]) /\ TxS Z w0 W' g gd gp gt n (3 * n + 45) r 0 (F8 (n - 2 - r)) (F8 (n - 2 - r)) (fun _ => false) (fun _ => False)
theorem begun_tx (Z : DK) (w0 w : World) (hb0 : Below w0.heap.size w0 w) (n r : Nat) (h1 : 32 <= n) (h2 : n <= 4096) (r1 : 8 <= r) (r2 : r <= 1024) (r3 : r + 10 <= n) : Calls Tryz.prog 9 #[.int .i64 (n : Int), .int .i64 (r : Int)] w (RetBt Z w0 n r) := by
 have CM := lH (made_any Z w0 w hb0 n r h1 h2 r1 r2 r3)
 go_enter Tryz.func9, Tryz.ntmps9
 go_upto_region 2 with (first
  | (go_at_call 35; refine CM.out.mono ?_; rintro e w1 ⟨gd, g, gp, p, j, rfl, u1, s1, _⟩
     have CB := lH (begin_up u1 s1 (by omega))
     have S1 := lH s1
     clear u1 s1))
 go_upto_region 3 with (first
  | (go_at_call 14; refine CB.out.mono ?_; rintro e w2 ⟨gt, gm, rfl, t2, u2, _, _, _⟩
     have CF := lH (format8_any (u2.less (fun k hk => .inr hk)) S1.out t2 (by omega))
     clear t2 u2))
 clear CB CM
 obtain ⟨h, hh⟩ : ∃ h, n - 2 - r = h := ⟨_, rfl⟩
 have HH := lH hh
 have hh4 : 8 <= h := by omega
 go_upto_region 5 with (first
  | (go_at_call 36; refine CF.out.mono ?_; rintro e w3 ⟨rfl, M3, t3, u3⟩
     have hc := fmtW_cnt (n - 2 - r) (by omega) 4 (Nat.le_refl _)
     have CC := lH (commit_tx u3 S1.out (by omega) t3 (.inl rfl) (by omega) (by omega) (by omega))
     clear t3 u3 hc)
  | (go_at_call 13; refine CC.out.mono ?_; rintro e w4 ⟨rfl, _, ⟨p4, j4, T4, v4, u4, s4, _, _⟩, _⟩
     have CB4 := lH (begin_up u4 s4 (by omega))
     have S4 := lH s4
     clear u4 s4))
 go_wp2_with (first
  | (go_at_call 14; refine CB4.out.mono ?_; rintro e w5 ⟨gt5, gm5, rfl, t5, u5, _, _, _⟩
     have T5 := lH t5
     have U5 := lH (u5.less (B' := fun k => (k = gt5 \/ k = gm5) \/ False) (fun k hk => hk.elim (fun h => .inr h) False.elim))
     clear t5 u5))
 go_ret2
 refine ⟨g, gd, gp, gt5, rfl, p4, j4, T4, v4, _, _, _, U5.out, S4.out.more (by omega), T5.out, fun i hi => ?_, fun i hi => rfl, fun i hi => decide_eq_false (fun h => h (rep_emp _ _)), fun i hi => ?_, fun _ h => h.elim⟩
 · show txH _ _ i = txH _ _ i
   conv => lhs; unfold txH
   rw [if_neg (by rw [rep_emp]; exact fun h => h rfl)]
   rfl
 · have := F8_len (h := n - 2 - r) (by omega) i
   exact ⟨this, this⟩
end Go.Proofs.YthoebjekkfhhgaaGreat
