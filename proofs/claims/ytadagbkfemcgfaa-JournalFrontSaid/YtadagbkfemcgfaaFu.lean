/-
  Own work. A sector that begins with some bytes: cofferlaw5's Full.
-/
import Derived.Test.YtadagbkfemcgfaaG1
namespace Go.Proofs.Ytadagbkfemcgfaa
open Go.RowKit
set_option linter.unusedVariables false
set_option linter.unusedSimpArgs false

/-- copy(x, b) into a row of the call's own, whether it has room for all of b or not. -/
theorem wp_copyT {P : Program} {w : World} {ops : Array Oper} {rest : List Oper} {o : Oper} {a : Act} {Q : Exit → Act → World → Prop} (hgd : o.guard = none) (d s : Operand)
    (ho : o.op = .call { callee := .builtin .copy, args := #[d, s], argTypes := #[24, 24] }) (ht : P.underlying 24 = some (.slice 5)) (hsz : (P.info? 5).map (·.size) = some 1)
    (base g N : Nat) (L m : List UInt8) (hd : a.eval d = .slice (some ⟨g, 0, none⟩) N N) (hown : OwnB w base (.slice (some ⟨g, 0, none⟩) N N) L)
    (B : Nat) (A : Option Addr) (n c : Nat) (hs : a.eval s = .slice A n c) (hm : HasB w B A n m) (hN : N ≤ maxLen)
    (h : ∀ w', OwnB w' base (.slice (some ⟨g, 0, none⟩) N N) (m.take N ++ L.drop (m.take N).length) → Below base w w' → wpList P ops Q rest (a.put o.dst (goInt (cellsB (m.take N)).length)) w') : wpList P ops Q (o :: rest) a w := by
  obtain ⟨hg, hbg, hNl⟩ := hown.block
  obtain ⟨hnl, hcell⟩ := hm
  have hlen : (m.take N).length = min n N := by rw [List.length_take, hnl, Nat.min_comm]
  refine wpList_copy_splice hgd d s _ _ ho 5 ht hsz _ _ _ _ _ _ hd hs g 0 (cellsB L) 5 hg (cellsB (m.take N)) (by rw [cellsB_length, hlen]) ?_ (by rw [cellsB_length, cellsB_length, hlen]; omega) (cellsB_one _) base w (Below.refl _ _) hbg ?_
  · intro hpos
    obtain ⟨g', o', e, _, hc⟩ := hcell (by rw [cellsB_length, hlen] at hpos; omega)
    refine ⟨rfl, ⟨g', o', none⟩, e, fun j v hv => ?_⟩
    obtain ⟨b, hb, rfl⟩ := cellsB_at hv
    rw [Addr.add_lit]
    refine hc j b ?_
    rw [List.getElem?_take] at hb
    split at hb
    · exact hb
    · cases hb
  · intro w' hh hb
    refine h w' (OwnB.of_block ?_ hbg (by rw [List.length_append, List.length_drop, hlen]; omega) hN) hb
    have := hh.out
    have e : splice (cellsB L) 0 (cellsB (m.take N)) = cellsB (m.take N ++ L.drop (m.take N).length) := by
      simp [splice, cellsB, List.map_drop]
    rw [e] at this
    exact this

/-- A sector that begins with l. -/
def fullL (l : List UInt8) : List UInt8 := l.take 512 ++ (List.replicate 512 (0 : UInt8)).drop (l.take 512).length
theorem fullL_len (l : List UInt8) : (fullL l).length = 512 := by
  unfold fullL
  rw [List.length_append, List.length_drop, List.length_replicate, List.length_take]
  omega

set_option maxRecDepth 100000 in
theorem full_any (A : Option Addr) (n c : Nat) (l : List UInt8) (w : World) (B : Nat) (h : HasB w B A n l) (hB : B ≤ w.heap.size) : Calls Try.prog 39 #[.slice A n c] w (RetB w (fullL l)) := by
  have HS := Lib.hid h
  have hsz1 : (Try.prog.info? 5).map (·.size) = some 1 := by kernel_rfl
  clear h
  go_enter Try.func39, Try.ntmps39
  go_wp2_with (first
    | (at_make; refine wp_mk _ rfl _ _ rfl Try.underlying24 infoU8 w.heap.size _ _ _ _ 512 rfl rfl rfl rfl (by omega) (Nat.le_refl _) ?_; intro w1 hown1 hb1)
    | (refine wp_copyT rfl (.tmp 5) (.tmp 6) rfl Try.underlying24 hsz1 w.heap.size w.heap.size 512 _ l rfl hown1 B A n c rfl (HS.out.keep fun _ hp => hb1.cell (by omega)) (by simp only [maxLen]; omega) ?_; intro w2 hown2 hb2))
  go_ret
  exact ⟨_, _, _, rfl, hown2, hb1.trans hb2⟩
end Go.Proofs.Ytadagbkfemcgfaa
