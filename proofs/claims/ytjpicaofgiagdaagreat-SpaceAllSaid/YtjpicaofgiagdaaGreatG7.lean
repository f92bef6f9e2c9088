/-
  Own work. Structs and slices built of parts, one of them an array: one step of the filling. A sector that begins with some bytes: cofferlaw5's Full. The contract of octet's At.
-/
import Derived.Test.YtjpicaofgiagdaaGreatG1
namespace Go.Proofs.YtjpicaofgiagdaaGreat
open Go.RowKit
set_option linter.unusedVariables false
set_option linter.unusedSimpArgs false

theorem fold_list (off : Nat) : ∀ (vs : List Value) (k : Nat) (cs : Array Value), off + k + vs.length ≤ cs.size →
    ((vs.zipIdx k).foldl (fun cs (p : Value × Nat) => cs.setIfInBounds (off + p.2) p.1) cs).toList = cs.toList.take (off + k) ++ vs ++ cs.toList.drop (off + k + vs.length)
  | [], k, cs, _ => by simp
  | v :: vs, k, cs, h => by
    rw [List.length_cons] at h
    rw [List.zipIdx_cons, List.foldl_cons, fold_list off vs (k + 1) _ (by rw [Array.size_setIfInBounds]; omega)]
    have hlt : off + k < cs.toList.length := by rw [Array.length_toList]; omega
    have e : (cs.setIfInBounds (off + k) v).toList = cs.toList.take (off + k) ++ v :: cs.toList.drop (off + k + 1) := by
      rw [Array.toList_setIfInBounds, List.set_eq_take_append_cons_drop, if_pos hlt]
    rw [e]
    have l1 : (cs.toList.take (off + k)).length = off + k := by rw [List.length_take]; omega
    rw [show off + (k + 1) = off + k + 1 by omega, List.take_append, l1, List.take_of_length_le (by omega), show off + k + 1 - (off + k) = 1 by omega, List.take_succ_cons, List.take_zero,
      List.drop_append, l1, List.drop_of_length_le (by omega), show off + k + 1 + vs.length - (off + k) = vs.length + 1 by omega, List.drop_succ_cons, List.drop_drop, List.length_cons]
    simp only [List.append_assoc, List.cons_append, List.nil_append]
    rw [show off + k + 1 + vs.length = off + k + (vs.length + 1) by omega]
theorem fill_step (place : Nat → Option (Nat × Nat)) (cells : Array Value) (i : Nat) (v : Value) (rest : List (Nat × Value)) (off size : Nat) (hp : place i = some (off, size)) (hs : v.cells.size = size) (hf : off + size ≤ cells.size) :
    Instr.fill place cells ((i, v) :: rest) = Instr.fill place (cells.toList.take off ++ v.cells.toList ++ cells.toList.drop (off + size)).toArray rest := by
  rw [Instr.fill]
  simp only [hp]
  rw [if_neg (by simp [hs]; omega)]
  congr 1
  apply Array.toList_inj.1
  rw [← Array.foldl_toList, Array.toList_zipIdx]
  have := fold_list off v.cells.toList 0 cells (by rw [Array.length_toList, hs]; omega)
  rw [Array.length_toList, hs, Nat.add_zero] at this
  exact this
end Go.Proofs.YtjpicaofgiagdaaGreat
namespace Go.Proofs.YtjpicaofgiagdaaGreat
open Go.RowKit
set_option linter.unusedVariables false
set_option linter.unusedSimpArgs false

/-- copy(x, b) into a row of the call's own, whether it has room for all of b or not. -/
theorem wp_copyT {P : Program} {w : World} {ops : Array Oper} {rest : List Oper} {o : Oper} {a : Act} {Q : Exit → Act → World → Prop} (hgd : o.guard = none) (d s : Operand)
    (ho : o.op = .call { callee := .builtin .copy, args := #[d, s], argTypes := #[72, 72] }) (ht : P.underlying 72 = some (.slice 5)) (hsz : (P.info? 5).map (·.size) = some 1)
    (base g N : Nat) (L m : List UInt8) (hd : a.eval d = .slice (some ⟨g, 0, none⟩) N N) (hown : OwnB w base (.slice (some ⟨g, 0, none⟩) N N) L)
    (B : Nat) (A : Option Addr) (n c : Nat) (hs : a.eval s = .slice A n c) (hm : HasB w B A n m) (hN : N ≤ maxLen)
    (h : ∀ w', OwnB w' base (.slice (some ⟨g, 0, none⟩) N N) (m.take N ++ L.drop (m.take N).length) → Below base w w' → wpList P ops Q rest (a.put o.dst (goInt (cellsB (m.take N)).length)) w') : wpList P ops Q (o :: rest) a w := by
  obtain ⟨hg, hbg, hNl⟩ := hown.block
  obtain ⟨hnl, hcell⟩ := hm
  have hlen : (m.take N).length = min n N := by rw [List.length_take, hnl, Nat.min_comm]
  refine wpList_copy_splice hgd d s _ _ ho 5 ht hsz _ _ _ _ _ _ hd hs g 0 (cellsB L) 5 hg (cellsB (m.take N)) (by rw [cellsB_length, hlen]) ?_ (by rw [cellsB_length, cellsB_length, hlen]; omega) (cellsB_one _) base w (Below.refl _ _) hbg ?_
  · intro hpos
    obtain ⟨g', o', e, _, hc⟩ := hcell (by rw [cellsB_length, hlen] at hpos; omega)
    refine ⟨rfl, ⟨g', o', none⟩, e, fun j v hv => ?_⟩
    obtain ⟨b, hb, rfl⟩ := cellsB_at hv
    rw [Addr.add_lit]
    refine hc j b ?_
    rw [List.getElem?_take] at hb
    split at hb
    · exact hb
    · cases hb
  · intro w' hh hb
    refine h w' (OwnB.of_block ?_ hbg (by rw [List.length_append, List.length_drop, hlen]; omega) hN) hb
    have := hh.out
    have e : splice (cellsB L) 0 (cellsB (m.take N)) = cellsB (m.take N ++ L.drop (m.take N).length) := by
      simp [splice, cellsB, List.map_drop]
    rw [e] at this
    exact this

/-- A sector that begins with l. -/
def fullL (l : List UInt8) : List UInt8 := l.take 512 ++ (List.replicate 512 (0 : UInt8)).drop (l.take 512).length
theorem fullL_len (l : List UInt8) : (fullL l).length = 512 := by
  unfold fullL
  rw [List.length_append, List.length_drop, List.length_replicate, List.length_take]
  omega

set_option maxRecDepth 100000 in
theorem full_any (A : Option Addr) (n c : Nat) (l : List UInt8) (w : World) (B : Nat) (h : HasB w B A n l) (hB : B ≤ w.heap.size) : Calls Tryz.prog 96 #[.slice A n c] w (RetB w (fullL l)) := by
  have HS := Lib.hid h
  have hsz1 : (Tryz.prog.info? 5).map (·.size) = some 1 := by kernel_rfl
  clear h
  go_enter Tryz.func96, Tryz.ntmps96
  go_wp2_with (first
    | (at_make; refine wp_mk _ rfl _ _ rfl Tryz.underlying72 infoU8 w.heap.size _ _ _ _ 512 rfl rfl rfl rfl (by omega) (Nat.le_refl _) ?_; intro w1 hown1 hb1)
    | (refine wp_copyT rfl (.tmp 5) (.tmp 6) rfl Tryz.underlying72 hsz1 w.heap.size w.heap.size 512 _ l rfl hown1 B A n c rfl (HS.out.keep fun _ hp => hb1.cell (by omega)) (by simp only [maxLen]; omega) ?_; intro w2 hown2 hb2))
  go_ret
  exact ⟨_, _, _, rfl, hown2, hb1.trans hb2⟩
end Go.Proofs.YtjpicaofgiagdaaGreat
namespace Go.Proofs.YtjpicaofgiagdaaGreat
open Go.RowKit
set_option linter.unusedVariables false

/-! ### At -/
theorem or_join (N b : Nat) (hN : N ≤ 72057594037927935) (hb : b < 256) : bits .or .u64 ((N : Int) * 256) (b : Int) = ((N * 256 + b : Nat) : Int) := by
  rw [bits_join .u64 64 (by decide) wraps_u64 8 _ _ (by omega) (by omega) (by omega) (by omega) (by omega) (by omega)]
  omega

theorem at_ok (A : Option Addr) (l : List UInt8) (n c p k : Nat) (w : World) (h : HasB w w.heap.size A n l) (hn : n ≤ 1073741824) (hc : n ≤ c) (hc2 : c ≤ maxLen) (hk1 : 1 ≤ k) (hk8 : k ≤ 8) (hfit : p + k ≤ n) :
    Calls Tryz.prog 91 #[.slice A n c, .int .i64 (p : Int), .int .i64 (k : Int)] w fun e w' => e = .returned (.tuple #[.int .u64 (num ((l.drop p).take k) : Nat), .int .i64 0]) ∧ w = w' := by
  obtain ⟨hl, hm⟩ := h
  obtain ⟨g, o, rfl, hg, hcell⟩ := hm (by omega)
  unfold maxLen at hc2
  have HL := Lib.hid hl
  have HC := Lib.hid hcell
  clear hl hm hcell
  go_enter Tryz.func91, Tryz.ntmps91
  go_wp2_with (first
    | (go_at_call 159; refine (mayWidth_yes _ _ (by omega) (by omega)).mono ?_; rintro e w' ⟨rfl, rfl⟩))
  go_loop [8, 31] (fun x i => ∃ j : Nat, j ≤ k ∧ i = .int .i64 (j : Int) ∧ x = .int .u64 ((num ((l.drop p).take j) : Nat) : Int)) (fun _ i => k - (intOf i).toNat)
  case atStart => exact ⟨0, by omega, rfl, rfl⟩
  case round =>
    obtain ⟨j, hj, rfl, rfl⟩ := hrel
    by_cases hlt : j < k
    · obtain ⟨b, hb⟩ := at_some l (p + j) (by have := HL.out; omega)
      have hbb : (l.drop p)[j]? = some b := by rw [List.getElem?_drop]; exact hb
      have hn1 := num_take_lt (l.drop p) j (by omega)
      have hn2 : num ((l.drop p).take (j + 1)) = num ((l.drop p).take j) * 256 + b.toNat := by rw [take_snoc' _ _ _ hbb, num_snoc]
      have HN := Lib.hid hn2
      have hbl := b.toNat_lt
      have hcc : w.cell? ⟨g, o + p + j, none⟩ = some (.int .u8 (b.toNat : Int)) := by rw [Nat.add_assoc]; exact HC.out (p + j) b hb
      clear hb hbb hn2
      generalize num ((l.drop p).take j) = N at *
      go_wp2_with fail
      go_round
      case rel => exact ⟨j + 1, by omega, by go_num, by rw [or_join N b.toNat (by omega) hbl, ← HN.out]⟩
      case measure => simp [intOf]; omega
    · go_wp2_with fail
      obtain rfl : j = k := by omega
      go_ret2
      exact ⟨rfl, rfl⟩
theorem at_any (A : Option Addr) (l : List UInt8) (n c : Nat) (p k : Int) (w : World) (h : HasB w w.heap.size A n l) (hn : n ≤ 1073741824) (hc : n ≤ c) (hc2 : c ≤ maxLen) (hp : -9223372036854775808 ≤ p ∧ p ≤ 9223372036854775807) (hk : -9223372036854775808 ≤ k ∧ k ≤ 9223372036854775807) :
    Calls Tryz.prog 91 #[.slice A n c, .int .i64 p, .int .i64 k] w fun e w' => e = .returned (.tuple #[.int .u64 (atV l p k : Nat), .int .i64 (atE l p k)]) ∧ w = w' := by
  have hl := h.len
  obtain ⟨hp1, hp2⟩ := hp
  obtain ⟨hk1, hk2⟩ := hk
  by_cases hw : 1 ≤ k ∧ k ≤ 8
  · by_cases hp0 : 0 ≤ p
    · by_cases hfit : p + k ≤ n
      · have e1 : atE l p k = 0 := by unfold atE; rw [if_pos ⟨hw.1, hw.2, hp0⟩, if_pos (by omega)]
        have e2 : atV l p k = num ((l.drop p.toNat).take k.toNat) := by unfold atV; rw [e1, if_pos rfl]
        rw [e1, e2]
        obtain ⟨P, rfl⟩ := Int.eq_ofNat_of_zero_le hp0
        obtain ⟨K, rfl⟩ := Int.eq_ofNat_of_zero_le (show 0 ≤ k by omega)
        exact at_ok A l n c P K w h hn hc hc2 (by omega) (by omega) (by omega)
      · have e1 : atE l p k = 3 := by unfold atE; rw [if_pos ⟨hw.1, hw.2, hp0⟩, if_neg (by omega)]
        have e2 : atV l p k = 0 := by unfold atV; rw [e1]; rfl
        rw [e1, e2]
        obtain ⟨hw1, hw2⟩ := hw
        clear hl e1 e2 h
        go_enter Tryz.func91, Tryz.ntmps91
        go_wp2_with (go_at_call 159; refine (mayWidth_yes _ _ hw1 hw2).mono ?_; rintro e w' ⟨rfl, rfl⟩)
        go_ret2
        exact ⟨rfl, rfl⟩
    · have e1 : atE l p k = 1 := by unfold atE; rw [if_neg (by omega)]
      have e2 : atV l p k = 0 := by unfold atV; rw [e1]; rfl
      rw [e1, e2]
      obtain ⟨hw1, hw2⟩ := hw
      clear hl e1 e2 h
      go_enter Tryz.func91, Tryz.ntmps91
      go_wp2_with (go_at_call 159; refine (mayWidth_yes _ _ hw1 hw2).mono ?_; rintro e w' ⟨rfl, rfl⟩)
      go_ret2
      exact ⟨rfl, rfl⟩
  · have e1 : atE l p k = 1 := by unfold atE; rw [if_neg (by omega)]
    have e2 : atV l p k = 0 := by unfold atV; rw [e1]; rfl
    rw [e1, e2]
    have HW := Lib.hid hw
    clear hl e1 e2 h hw
    go_enter Tryz.func91, Tryz.ntmps91
    go_wp2_with (go_at_call 159; refine (mayWidth_no _ _ ⟨hk1, hk2⟩ HW.out).mono ?_; rintro e w' ⟨rfl, rfl⟩)
    go_ret2
    exact ⟨rfl, rfl⟩
end Go.Proofs.YtjpicaofgiagdaaGreat
