/-
  Own work. Contracts of what the statements lean on: twins, whether they are kept, and what is written over.
-/
import Derived.Test.YtpnmcdpekfibjaaByt
import Derived.Laws.CopyOwn
namespace Go.Proofs.Ytpnmcdpekfibjaa
open Go.RowKit
set_option linter.unusedVariables false

section
variable {w : World} {base g n : Nat} {l : List UInt8}

/-- What is owned up to its capacity is a block known whole. -/
theorem OwnB.block (h : OwnB w base (.slice (some ⟨g, 0, none⟩) n n) l) : w.heap[g]? = some (.cells (cellsB l).toArray 5 (0, 0)) ∧ base ≤ g ∧ n = l.length := by
  have hl := h.len
  rcases h.form with ⟨e, _⟩ | ⟨g', c, cur, e, hb, hlt, hg, hn, hc, hs, ht⟩
  · cases e
  · simp only [Value.slice.injEq, Option.some.injEq, Addr.mk.injEq, and_true] at e
    obtain ⟨rfl, -, rfl⟩ := e
    refine ⟨?_, hb, hl⟩
    have : cur = (cellsB l).toArray := by
      apply Array.toList_inj.1
      rw [← ht, List.take_of_length_le (by rw [Array.length_toList]; omega)]
    rw [← this]
    exact hg
theorem OwnB.of_block (h : w.heap[g]? = some (.cells (cellsB l).toArray 5 (0, 0))) (hb : base ≤ g) (hn : n = l.length) (hm : n ≤ maxLen) : OwnB w base (.slice (some ⟨g, 0, none⟩) n n) l := by
  subst hn
  exact ⟨by simp [cellsB], .inr ⟨g, l.length, _, rfl, hb, h, Nat.le_refl _, hm, by simp [cellsB], List.take_of_length_le (by simp [cellsB])⟩⟩
end

/-- make([]byte, n). -/
theorem wp_mk {P : Program} (w : World) {ops : Array Oper} {rest : List Oper} {o : Oper} {a : Act} {Q : Exit → Act → World → Prop} (hg : o.guard = none) (l c : Operand) (hop : o.op = Op.makeSlice 29 l c)
    (ht : P.underlying 29 = some (.slice 5)) (hi0 : (P.info? 5).map (fun i => (i.zero, i.size, i.bytes)) = some (some (.int .u8 0), 1, 1))
    (base : Nat) (kl kc : IntKind) (L C : Int) (n : Nat) (hl : a.eval l = .int kl L) (hc : a.eval c = .int kc C) (hL : L = (n : Int)) (hC : C = (n : Int)) (hn : n ≤ 281474976710656) (hb : base ≤ w.heap.size)
    (hK : ∀ w', OwnB w' base (.slice (some ⟨w.heap.size, 0, none⟩) n n) (List.replicate n 0) → Below base w w' → wpList P ops Q rest (a.put o.dst (.slice (some ⟨w.heap.size, 0, none⟩) n n)) w') :
    wpList P ops Q (o :: rest) a w := by
  obtain ⟨i, hi, hz, hs, hby⟩ := info_parts hi0
  refine wpList_make_full w hg l c 29 hop base 5 i _ 1 ht hi hz hs kl kc L C n hl hc hL hC (by rw [hby]; omega) (by simp only [maxLen]; omega) hb ?_
  intro w' hown hgr
  refine hK w' ?_ ((Below.refl _ _).grown hgr hb (by simp))
  have e : (madeCells (Value.int .u8 0).cells (n * 1)).toList = cellsB (List.replicate n 0) := by
    rw [show (Value.int .u8 0).cells = #[Value.int .u8 0] from rfl, toList_madeCells_one]
    simp [cellsB]
  rw [e] at hown
  unfold OwnB
  rw [List.length_replicate]
  exact hown

/-- copy(x, b) into a row of the call's own that has room. -/
theorem wp_copy {P : Program} {w : World} {ops : Array Oper} {rest : List Oper} {o : Oper} {a : Act} {Q : Exit → Act → World → Prop} (hgd : o.guard = none) (d s : Operand)
    (ho : o.op = .call { callee := .builtin .copy, args := #[d, s], argTypes := #[29, 29] }) (ht : P.underlying 29 = some (.slice 5)) (hsz : (P.info? 5).map (·.size) = some 1)
    (base g N : Nat) (L m : List UInt8) (hd : a.eval d = .slice (some ⟨g, 0, none⟩) N N) (hown : OwnB w base (.slice (some ⟨g, 0, none⟩) N N) L)
    (B : Nat) (A : Option Addr) (n c : Nat) (hs : a.eval s = .slice A n c) (hm : HasB w B A n m) (hle : n ≤ N) (hN : N ≤ maxLen)
    (h : ∀ w', OwnB w' base (.slice (some ⟨g, 0, none⟩) N N) (m ++ L.drop m.length) → Below base w w' → wpList P ops Q rest (a.put o.dst (goInt (cellsB m).length)) w') : wpList P ops Q (o :: rest) a w := by
  obtain ⟨hg, hbg, hNl⟩ := hown.block
  obtain ⟨hnl, hcell⟩ := hm
  refine wpList_copy_splice hgd d s _ _ ho 5 ht hsz _ _ _ _ _ _ hd hs g 0 (cellsB L) 5 hg (cellsB m) (by rw [cellsB_length]; show _ = min n N; omega) ?_ (by rw [cellsB_length, cellsB_length]; omega) (cellsB_one m) base w (Below.refl _ _) hbg ?_
  · intro hpos
    obtain ⟨g', o', e, _, hc⟩ := hcell (by rw [cellsB_length] at hpos; omega)
    refine ⟨rfl, ⟨g', o', none⟩, e, fun j v hv => ?_⟩
    obtain ⟨b, hb, rfl⟩ := cellsB_at hv
    rw [Addr.add_lit]
    exact hc j b hb
  · intro w' hh hb
    refine h w' (OwnB.of_block ?_ hbg (by simp; omega) hN) hb
    have := hh.out
    have e : splice (cellsB L) 0 (cellsB m) = cellsB (m ++ L.drop m.length) := by
      simp [splice, cellsB, List.map_drop]
    rw [e] at this
    exact this

/-- The spare room of a twin, of which j places are filled. -/
def fillT (j : Nat) : List UInt8 := List.replicate j 229 ++ List.replicate (3 - j) 0
theorem fillT_set (l : List UInt8) (j : Nat) (h : j < 3) : (l ++ fillT j).set (l.length + j) 229 = l ++ fillT (j + 1) := by
  rw [List.set_append_right _ _ (by omega), show l.length + j - l.length = j by omega]
  congr 1
  rcases (show j = 0 ∨ j = 1 ∨ j = 2 by omega) with rfl | rfl | rfl <;> rfl
theorem fillT_len (j : Nat) (h : j ≤ 3) : (fillT j).length = 3 := by simp [fillT]; omega

/-- A twin: the same bytes, and three places behind them. -/
def TwinB (w : World) (base : Nat) (A : Option Addr) (l : List UInt8) : Prop :=
  ∃ g, A = some ⟨g, 0, none⟩ ∧ OwnB w base (.slice (some ⟨g, 0, none⟩) (l.length + 3) (l.length + 3)) (l ++ [229, 229, 229])

def RetTwin (w : World) (n : Nat) (l : List UInt8) (e : Ending) (w' : World) : Prop :=
  ∃ A, e = .returned (.slice A n (n + 3)) ∧ TwinB w' w.heap.size A l ∧ Below w.heap.size w w'

set_option maxRecDepth 100000 in
theorem twin_any (A : Option Addr) (l : List UInt8) (n c : Nat) (w : World) (h : HasB w w.heap.size A n l) (hn : n ≤ 1073741824) :
    Calls Try.prog 31 #[.slice A n c] w (RetTwin w n l) := by
  have hl := h.len
  have HL := Lib.hid hl
  clear hl
  have hsz1 : (Try.prog.info? 5).map (·.size) = some 1 := by kernel_rfl
  go_enter Try.func31, Try.ntmps31
  go_wp2_with (first
    | (at_make; refine wp_mk _ rfl _ _ rfl Try.underlying29 infoU8 w.heap.size _ _ _ _ (n + 3) rfl rfl (by omega) (by omega) (by omega) (Nat.le_refl _) ?_; intro w1 hown1 hb1)
    | (refine wp_copy rfl (.tmp 9) (.tmp 10) rfl Try.underlying29 hsz1 w.heap.size w.heap.size (n + 3) _ l rfl hown1 w.heap.size A n c rfl (h.below hb1) (by omega) (by simp only [maxLen]; omega) ?_; intro w2 hown2 hb2))
  have hl2 : l ++ (List.replicate (n + 3) (0 : UInt8)).drop l.length = l ++ fillT 0 := by
    have := HL.out
    rw [List.drop_replicate, show n + 3 - l.length = 3 by omega]
    rfl
  rw [hl2] at hown2
  have hb12 : Below w.heap.size w w2 := hb1.trans hb2
  clear hl2 hown1
  go_loopw [4] (fun x wr => ∃ j : Nat, j ≤ 3 ∧ x = .int .i64 ((n + j : Nat) : Int) ∧ OwnB wr w.heap.size (.slice (some ⟨w.heap.size, 0, none⟩) (n + 3) (n + 3)) (l ++ fillT j) ∧ Below w.heap.size w wr) (fun x _ => n + 3 - (intOf x).toNat)
  case atStart => exact ⟨0, by omega, by simp, hown2, hb12⟩
  case round =>
    obtain ⟨j, hj, rfl, hown, hbel⟩ := hrel
    by_cases hlt : j < 3
    · have hcell := (hown.head (by omega))
      obtain ⟨g, e, _, _, hc⟩ := hcell
      simp only [Option.some.injEq, Addr.mk.injEq, and_true] at e
      obtain ⟨b, hb⟩ : ∃ b, (l ++ fillT j)[n + j]? = some b := ⟨_, List.getElem?_eq_getElem (by rw [List.length_append, fillT_len j hj, ← HL.out]; omega)⟩
      have hcc := hc (n + j) b hb
      rw [← e] at hcc
      have hfz := hown.frozen (n + j)
      have hset := hown.set_ (k := n + j) (x := 229) (b := 229) rfl
      have hs2 : (l ++ fillT j).set (n + j) 229 = l ++ fillT (j + 1) := by have := fillT_set l j hlt; rw [← HL.out] at this; exact this
      rw [hs2] at hset
      have HS := Lib.hid hset
      clear hset hs2 hc hb e
      go_wp2_with fail
      go_roundw
      case rel => exact ⟨j + 1, by omega, by go_num, HS.out, hbel.setCell (Nat.le_refl _) _⟩
      case measure => simp [intOf]; omega
    · obtain rfl : j = 3 := by omega
      go_wp2_with fail
      go_ret
      exact ⟨_, rfl, ⟨_, rfl, by rw [← HL.out]; exact hown⟩, hbel⟩
theorem TwinB.has {w : World} {base n : Nat} {A : Option Addr} {l : List UInt8} (h : TwinB w base A l) (hn : n = l.length) : HasB w w.heap.size A n l := by
  obtain ⟨g, rfl, hown⟩ := h
  obtain ⟨g', e, _, hlt, hc⟩ := hown.head (by omega)
  simp only [Option.some.injEq, Addr.mk.injEq, and_true] at e
  subst e
  refine ⟨hn, fun _ => ⟨g, 0, rfl, hlt, fun i b hb => ?_⟩⟩
  rw [Nat.zero_add]
  refine hc i b ?_
  rw [List.getElem?_append_left (List.getElem?_eq_some_iff.1 hb).1]
  exact hb
theorem TwinB.below {w w' : World} {base : Nat} {A : Option Addr} {l : List UInt8} (h : TwinB w base A l) (hb : Below w.heap.size w w') : TwinB w' base A l := by
  obtain ⟨g, rfl, hown⟩ := h
  exact ⟨g, rfl, hown.below hb⟩

set_option maxRecDepth 100000 in
theorem kept_any (A C : Option Addr) (l : List UInt8) (n c : Nat) (base : Nat) (w : World) (h : TwinB w base A l) (hb : HasB w w.heap.size C n l) (hn : n ≤ 1073741824) :
    Calls Try.prog 32 #[.slice A n (n + 3), .slice C n c] w fun e w' => e = .returned (.bool true) ∧ w = w' := by
  have hl := hb.len
  have c1 := run_conv (P := Try.prog) Try.underlying29 Try.underlying5 Try.underlying9 _ _ _ (n + 3) _ (h.has hl)
  have c2 := run_conv (P := Try.prog) Try.underlying29 Try.underlying5 Try.underlying9 _ _ _ c _ hb
  generalize (⟨l.toArray⟩ : ByteArray) = s at c1 c2
  obtain ⟨g, rfl, hown⟩ := h
  obtain ⟨g', e, _, _, hc⟩ := hown.head (by omega)
  simp only [Option.some.injEq, Addr.mk.injEq, and_true] at e
  subst e
  have hcell : ∀ j, j < 3 → w.cell? ⟨g, n + j, none⟩ = some (.int .u8 229) := by
    intro j hj
    refine hc (n + j) 229 ?_
    rw [List.getElem?_append_right (by omega), show n + j - l.length = j by omega]
    rcases (show j = 0 ∨ j = 1 ∨ j = 2 by omega) with rfl | rfl | rfl <;> rfl
  have HC := Lib.hid hcell
  clear hcell hc hown hl
  go_enter Try.func32, Try.ntmps32
  go_wp2_with fail
  go_loop [6] (fun x => ∃ j : Nat, j ≤ 3 ∧ x = .int .i64 ((n + j : Nat) : Int)) (fun x => n + 3 - (intOf x).toNat)
  case atStart => exact ⟨0, by omega, by simp⟩
  case round =>
    obtain ⟨j, hj, rfl⟩ := hrel
    by_cases hlt : j < 3
    · have hcc := HC.out j hlt
      go_wp2_with fail
      go_round
      case rel => exact ⟨j + 1, by omega, by go_num⟩
      case measure => simp [intOf]; omega
    · obtain rfl : j = 3 := by omega
      go_wp2_with fail
      go_ret
      exact ⟨rfl, rfl⟩

end Go.Proofs.Ytpnmcdpekfibjaa
