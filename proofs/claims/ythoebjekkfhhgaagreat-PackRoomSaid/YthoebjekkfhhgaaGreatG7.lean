/-
  Own work.
-/
import Derived.Test.YthoebjekkfhhgaaGreatCp9
import Derived.Test.YthoebjekkfhhgaaGreatG1
set_option linter.unusedVariables false
set_option linter.unusedSimpArgs false
namespace Go.Proofs.YthoebjekkfhhgaaGreat
open Go.RowKit
theorem fold_list (off : Nat) : ∀ (vs : List Value) (k : Nat) (cs : Array Value), off + k + vs.length <= cs.size ->
 ((vs.zipIdx k).foldl (fun cs (p : Value × Nat) => cs.setIfInBounds (off + p.2) p.1) cs).toList = cs.toList.take (off + k) ++ vs ++ cs.toList.drop (off + k + vs.length)
 | [], k, cs, _ => by simp
 | v :: vs, k, cs, h => by
   rw [List.length_cons] at h
   rw [List.zipIdx_cons, List.foldl_cons, fold_list off vs (k + 1) _ (by rw [Array.size_setIfInBounds]; omega)]
   have hlt : off + k < cs.toList.length := by rw [Array.length_toList]; omega
   have e : (cs.setIfInBounds (off + k) v).toList = cs.toList.take (off + k) ++ v :: cs.toList.drop (off + k + 1) := by
    rw [Array.toList_setIfInBounds, List.set_eq_take_append_cons_drop, if_pos hlt]
   rw [e]
   have l1 : (cs.toList.take (off + k)).length = off + k := by rw [List.length_take]; omega
   rw [show off + (k + 1) = off + k + 1 by omega, List.take_append, l1, List.take_of_length_le (by omega), show off + k + 1 - (off + k) = 1 by omega, List.take_succ_cons, List.take_zero,
    List.drop_append, l1, List.drop_of_length_le (by omega), show off + k + 1 + vs.length - (off + k) = vs.length + 1 by omega, List.drop_succ_cons, List.drop_drop, List.length_cons]
   simp only [List.append_assoc, List.cons_append, List.nil_append]
   rw [show off + k + 1 + vs.length = off + k + (vs.length + 1) by omega]
theorem fill_step (place : Nat -> Option (Nat × Nat)) (cells : Array Value) (i : Nat) (v : Value) (rest : List (Nat × Value)) (off size : Nat) (hp : place i = some (off, size)) (hs : v.cells.size = size) (hf : off + size <= cells.size) :
 Instr.fill place cells ((i, v) :: rest) = Instr.fill place (cells.toList.take off ++ v.cells.toList ++ cells.toList.drop (off + size)).toArray rest := by
 rw [Instr.fill]
 simp only [hp]
 rw [if_neg (by simp [hs]; omega)]
 congr 1
 apply Array.toList_inj.1
 rw [<- Array.foldl_toList, Array.toList_zipIdx]
 have := fold_list off v.cells.toList 0 cells (by rw [Array.length_toList, hs]; omega)
 rw [Array.length_toList, hs, Nat.add_zero] at this
 exact this
theorem or_join (N b : Nat) (hN : N <= 72057594037927935) (hb : b < 256) : bits .or .u64 ((N : Int) * 256) (b : Int) = ((N * 256 + b : Nat) : Int) := by
 rw [bits_join .u64 64 (by decide) wraps_u64 8 _ _ (by omega) (by omega) (by omega) (by omega) (by omega) (by omega)]
 omega
theorem at_ok (A : Option Addr) (l : List UInt8) (n c p k : Nat) (w : World) (h : HasB w w.heap.size A n l) (hn : n <= 1073741824) (hc : n <= c) (hc2 : c <= maxLen) (hk1 : 1 <= k) (hk8 : k <= 8) (hfit : p + k <= n) :
 Calls Tryz.prog 131 #[.slice A n c, .int .i64 (p : Int), .int .i64 (k : Int)] w fun e w' => e = .returned (.tuple #[.int .u64 (num ((l.drop p).take k) : Nat), .int .i64 0]) /\ w = w' := by
 obtain ⟨hl, hm⟩ := h
 obtain ⟨g, o, rfl, hg, hcell⟩ := hm (by omega)
 unfold maxLen at hc2
 have HL := lH hl
 have HC := lH hcell
 clear hl hm hcell
 go_enter Tryz.func131, Tryz.ntmps131
 go_wp2_with (first
  | (go_at_call 128; refine (mayWidth_yes _ _ (by omega) (by omega)).mono ?_; rintro e w' ⟨rfl, rfl⟩))
 go_loop [8, 31] (fun x i => ∃ j : Nat, j <= k /\ i = .int .i64 (j : Int) /\ x = .int .u64 ((num ((l.drop p).take j) : Nat) : Int)) (fun _ i => k - (intOf i).toNat)
 case atStart => exact ⟨0, by omega, rfl, rfl⟩
 case round =>
  obtain ⟨j, hj, rfl, rfl⟩ := hrel
  by_cases hlt : j < k
  · obtain ⟨b, hb⟩ := at_some l (p + j) (by have := HL.out; omega)
    have hbb : (l.drop p)[j]? = some b := by rw [List.getElem?_drop]; exact hb
    have hn1 := num_take_lt (l.drop p) j (by omega)
    have hn2 : num ((l.drop p).take (j + 1)) = num ((l.drop p).take j) * 256 + b.toNat := by rw [take_snoc' _ _ _ hbb, num_snoc]
    have HN := lH hn2
    have hbl := b.toNat_lt
    have hcc : w.cell? ⟨g, o + p + j, none⟩ = some (.int .u8 (b.toNat : Int)) := by rw [Nat.add_assoc]; exact HC.out (p + j) b hb
    clear hb hbb hn2
    generalize num ((l.drop p).take j) = N at *
    go_wp2_with fail
    go_round
    case rel => exact ⟨j + 1, by omega, by go_num, by rw [or_join N b.toNat (by omega) hbl, <- HN.out]⟩
    case measure => simp [intOf]; omega
  · go_wp2_with fail
    obtain rfl : j = k := by omega
    go_ret2
    exact ⟨rfl, rfl⟩
end Go.Proofs.YthoebjekkfhhgaaGreat
