/-
  Own work. The document's disk: Waiting.
-/
import Derived.Test.YtpnmcdpekfibjaaRfl
import Derived.Test.YtpnmcdpekfibjaaOv
namespace Go.Proofs.Ytpnmcdpekfibjaa
open Go.RowKit
set_option linter.unusedVariables false
set_option linter.unusedSimpArgs false

theorem infoInt : (Try.prog.info? 3).map (fun i => (i.zero, i.size, i.bytes)) = some (some (.int .i64 0), 1, 8) := by kernel_rfl
/-- The numbers of the sectors below k that wait. -/
def RM.wtK (m : RM) (k : Nat) : List Nat := (List.range k).filter fun i => decide ((m.wait.getD i emp).size ≠ 0)
theorem RM.wtK_succ (m : RM) (k : Nat) : m.wtK (k + 1) = if (m.wait.getD k emp).size = 0 then m.wtK k else m.wtK k ++ [k] := by
  unfold RM.wtK
  rw [List.range_succ, List.filter_append]
  split
  · rename_i h
    have e : decide ((m.wait.getD k emp).size ≠ 0) = false := decide_eq_false (fun hn => hn h)
    rw [List.filter_cons, e]
    exact List.append_nil _
  · rename_i h
    have e : decide ((m.wait.getD k emp).size ≠ 0) = true := decide_eq_true h
    rw [List.filter_cons, e]
    rfl
theorem RM.wtK_len (m : RM) (k : Nat) : (m.wtK k).length ≤ k := by
  unfold RM.wtK
  have := List.length_filter_le (fun i => decide ((m.wait.getD i emp).size ≠ 0)) (List.range k)
  simpa using this
def ints (l : List Nat) : List Value := l.map fun (x : Nat) => Value.int .i64 (x : Int)
def RetI (w : World) (l : List Nat) (e : Ending) (w' : World) : Prop := ∃ A n c, e = .returned (.slice A n c) ∧ OwnV 3 w' w.heap.size (.slice A n c) (ints l) ∧ Below w.heap.size w w'

set_option maxRecDepth 100000 in
set_option maxHeartbeats 1000000 in
theorem rwaiting_any (w : World) (g gl gw n cl cw : Nat) (m : RM) (h : RefD w g gl gw n cl cw m) (ok : m.Ok n) :
    Calls Try.prog 37 #[.pointer (some ⟨g, 0, none⟩)] w (RetI w (m.wtK n)) := by
  have HR := Lib.hid h
  have OK := Lib.hid ok
  have n2 := ok.n2
  clear h ok
  go_enter Try.func37, Try.ntmps37
  go_wp2_with fail
  go_loopw [3, 4] (fun s x wr => ∃ (k : Nat) (A' : Option Addr) (n' c' : Nat), s = .slice A' n' c' ∧ k ≤ n ∧ x = .int .i64 (k : Int) ∧ OwnV 3 wr w.heap.size (.slice A' n' c') (ints (m.wtK k)) ∧ Below w.heap.size w wr) (fun _ x _ => n - (intOf x).toNat)
  case atStart => exact ⟨0, none, 0, 0, rfl, by omega, rfl, OwnV.nil _ _ _, Below.refl _ _⟩
  case round =>
    obtain ⟨k, A', n', c', rfl, hk, rfl, hown, hbel⟩ := hrel
    have hD : RefD wr g gl gw n cl cw m := HR.out.only (Only.of_below (S := fun _ => False) hbel (Nat.le_refl _)) (fun _ _ h => h)
    have k0 : wr.cell? ⟨g, 0, none⟩ = some (.slice (some ⟨gl, 0, none⟩) n cl) := hD.cell 0
    have k1 : wr.cell? ⟨g, 1, none⟩ = some (.slice (some ⟨gw, 0, none⟩) n cw) := hD.cell 1
    by_cases hlt : k < n
    · obtain ⟨s, hs⟩ : ∃ s, m.wait[k]? = some s := ⟨_, List.getElem?_eq_getElem (by rw [OK.out.nw]; exact hlt)⟩
      have d1 := hD.rw.cell hs
      have gs : m.wait.getD k emp = s := by rw [List.getD_eq_getElem?_getD, hs]; rfl
      have ef := m.wtK_succ k
      rw [gs] at ef
      have hwl : (ints (m.wtK k)).length ≤ 4096 := by have := m.wtK_len k; unfold ints; rw [List.length_map]; omega
      have EF := Lib.hid ef
      have O := Lib.hid hown
      have B := Lib.hid hbel
      have HWL := Lib.hid hwl
      clear hs gs ef hD hown hbel hwl
      by_cases hz : s.size = 0
      · have q1 : s.toList = [] := (ba_empty s).2 hz
        go_wp2_with fail
        go_roundw
        case rel => exact ⟨k + 1, A', n', c', rfl, by omega, by go_num, by rw [EF.out, if_pos hz]; exact O.out, B.out⟩
        case measure => simp [intOf]; omega
      · have q1 : ¬ s.toList = [] := fun e => hz ((ba_empty s).1 e)
        have q2 : s.toList.isEmpty = false := by rw [List.isEmpty_eq_false_iff]; exact q1
        have hnew : ∀ j u, [Value.int .i64 (k : Int)][j]? = some u → (wr.alloc (.cells #[.int .i64 (k : Int)] 3)).cell? ((⟨wr.heap.size, 0, none⟩ : Addr).add j) = some u := by
          intro j u hu
          rw [Addr.add_lit, cell_of_row _ _ _ _ _ _ (heap_alloc_new wr _)]
          simpa using hu
        have HNEW := Lib.hid hnew
        clear hnew
        go_wp2_with (at_builtin; refine wp_appV rfl (.tmp 22) (.tmp 24) 42 3 _ 8 rfl Try.underlying42 infoInt rfl w.heap.size _ (ints (m.wtK k)) [.int .i64 (k : Int)] rfl (O.out.alloc _) _ _ _ rfl rfl HNEW.out (by simp [Value.oneCell']) (by have := HWL.out; omega) (by have := B.out.size; simp; omega) ?_; intro A5 n5 c5 w5 hown5 hg5 hb5 hat5)
        go_roundw
        case rel => exact ⟨k + 1, A5, n5, c5, rfl, by omega, by go_num, by rw [EF.out, if_neg hz]; unfold ints; rw [List.map_append]; exact hown5, (B.out.alloc B.out.size _).trans hb5⟩
        case measure => simp [intOf]; omega
    · obtain rfl : k = n := by omega
      have O := Lib.hid hown
      have B := Lib.hid hbel
      clear hD hown hbel
      go_wp2_with fail
      go_ret
      exact ⟨A', n', c', rfl, O.out, B.out⟩
end Go.Proofs.Ytpnmcdpekfibjaa
