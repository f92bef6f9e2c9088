/-
  Own work. Lists of what is to be committed, as a law has them: List.
-/
import Derived.Test.YtadagbkfemcgfaaHm
namespace Go.Proofs.Ytadagbkfemcgfaa
open Go.RowKit Go.Maps
set_option linter.unusedVariables false
set_option linter.unusedSimpArgs false

/-- An element of a law's list: the home, the slice, its bytes, whether it stays as it is. -/
structure PsR where
  i : Int
  A : Option Addr
  q : Nat
  c : Nat
  d : List UInt8
  odd : Bool
/-- A law's list in memory. -/
def HasPs (W : World) (A : Option Addr) (n : Nat) (l : List PsR) : Prop :=
  n = l.length ∧ (∀ x ∈ l, -9223372036854775808 ≤ x.i ∧ x.i ≤ 9223372036854775807) ∧ (0 < n → ∃ g o, A = some ⟨g, o, none⟩ ∧ g < W.heap.size ∧ ∀ k x, l[k]? = some x → W.cell? ⟨g, o + k * 3, none⟩ = some (.int .i64 x.i) ∧ W.cell? ⟨g, o + k * 3 + 1, none⟩ = some (.slice x.A x.q x.c) ∧ W.cell? ⟨g, o + k * 3 + 2, none⟩ = some (.bool x.odd) ∧ HasB W W.heap.size x.A x.q x.d ∧ x.q ≤ x.c)
theorem HasPs.below {W W' : World} {A : Option Addr} {n : Nat} {l : List PsR} (h : HasPs W A n l) (hb : Below W.heap.size W W') : HasPs W' A n l := by
  refine ⟨h.1, h.2.1, fun hn => ?_⟩
  obtain ⟨g, o, e, hg, hc⟩ := h.2.2 hn
  refine ⟨g, o, e, Nat.lt_of_lt_of_le hg hb.size, fun k x hx => ?_⟩
  obtain ⟨h1, h2, h3, h4, h5⟩ := hc k x hx
  exact ⟨(hb.cell hg).trans h1, (hb.cell hg).trans h2, (hb.cell hg).trans h3, h4.on hb, h5⟩
/-- What List makes of it. -/
def lsP (l : List PsR) : List Pu := l.map fun x => ⟨x.i, if x.odd = true then x.d else fullL x.d⟩
set_option maxRecDepth 100000 in
set_option maxHeartbeats 2000000 in
theorem list_any {W : World} {A : Option Addr} {n c : Nat} {l : List PsR} (h : HasPs W A n l) (hn : n ≤ 1000) (hq : ∀ x ∈ l, x.d.length ≤ 1073741824) :
    Calls Try.prog 27 #[.slice A n c] W fun en W' => ∃ A' c' rs, en = .returned (.slice A' n c') ∧ PRow W' W.heap.size (.slice A' n c') rs ∧ puL rs = lsP l ∧ Below W.heap.size W W' ∧ ∀ x ∈ rs, ∀ b, x.A = some b → W.heap.size ≤ b.block ∧ b.block < W'.heap.size := by
  have HH := Lib.hid h
  have HL := Lib.hid h.1
  have HQ := Lib.hid hq
  have CF : Hid (∀ W A n c l, HasB W W.heap.size A n l → Calls Try.prog 39 #[.slice A n c] W (RetB W (fullL l))) := Lib.hid (fun W A n c l h => full_any A n c l W W.heap.size h (Nat.le_refl _))
  have CT : Hid (∀ W A n c l, HasB W W.heap.size A n l → n ≤ 1073741824 → Calls Try.prog 9 #[.slice A n c] W (RetTwin W n l)) := Lib.hid (fun W A n c l h h2 => twin_any A l n c W h h2)
  clear h hq
  go_enter Try.func27, Try.ntmps27
  go_wp2_with fail
  go_loopw [3, 4] (fun v i wr => ∃ (k : Nat) (A' : Option Addr) (c' : Nat) (rs : List PuR), k ≤ n ∧ i = .int .i64 (k : Int) ∧ v = .slice A' k c' ∧ PRow wr W.heap.size (.slice A' k c') rs ∧ puL rs = lsP (l.take k) ∧ Below W.heap.size W wr ∧ ∀ x ∈ rs, ∀ b, x.A = some b → W.heap.size ≤ b.block ∧ b.block < wr.heap.size) (fun _ i _ => n - (Go.RowKit.intOf i).toNat)
  case atStart => exact ⟨0, none, 0, [], Nat.zero_le _, rfl, rfl, PRow.nil _ _, rfl, Below.refl _ _, fun x hx => absurd hx (by simp)⟩
  case round =>
    obtain ⟨k, A', c', rs, hk, rfl, rfl, qp, ql, qb, qx⟩ := hrel
    have QP' := Lib.hid qp
    have QL := Lib.hid ql
    have QB := Lib.hid qb
    have QX := Lib.hid qx
    clear qp ql qb qx
    by_cases hlt : k < n
    · obtain ⟨g0, o0, rfl, hg0, hcl⟩ := HH.out.2.2 (by omega)
      obtain ⟨x, hx⟩ : ∃ x, l[k]? = some x := ⟨_, List.getElem?_eq_getElem (by rw [← HL.out]; exact hlt)⟩
      obtain ⟨k1', k2', k3', hB, hqc⟩ := hcl k x hx
      have k1 := (QB.out.cell hg0).trans k1'
      have k2 := (QB.out.cell hg0).trans k2'
      have k3 := (QB.out.cell hg0).trans k3'
      have hxm := List.mem_of_getElem? hx
      have hg0w : g0 < wr.heap.size := Nat.lt_of_lt_of_le hg0 QB.out.size
      have hxr := HH.out.2.1 x hxm
      have hxq := HQ.out x hxm
      have HBX := Lib.hid (hB.on QB.out)
      have HX := Lib.hid hx
      have SN : Hid (∀ d, d = (if x.odd = true then x.d else fullL x.d) → lsP (l.take k) ++ [⟨x.i, d⟩] = lsP (l.take (k + 1))) := Lib.hid (fun d hd => by
        rw [List.take_add_one, hx, hd]
        unfold lsP
        rw [List.map_append]
        rfl)
      obtain ⟨xi, hxi⟩ : ∃ xi, x.i = xi := ⟨_, rfl⟩
      obtain ⟨xA, hxA⟩ : ∃ xA, x.A = xA := ⟨_, rfl⟩
      obtain ⟨xq, hxq'⟩ : ∃ xq, x.q = xq := ⟨_, rfl⟩
      obtain ⟨xc, hxc⟩ : ∃ xc, x.c = xc := ⟨_, rfl⟩
      obtain ⟨xd, hxd⟩ : ∃ xd, x.d = xd := ⟨_, rfl⟩
      have hxlen : xq = xd.length := by have := hB.1; rw [hxq', hxd] at this; exact this
      rw [hxi] at k1 hxr SN
      rw [hxA, hxq', hxc] at k2
      rw [hxA, hxq', hxd] at HBX
      rw [hxd] at SN hxq
      have HLEN := Lib.hid hxlen
      have hxq2 : xq ≤ 1073741824 := by omega
      clear hcl hB hqc k1' k2' k3' hx hxm hxi hxA hxq' hxc hxd hxlen
      by_cases ho : x.odd = true
      · rw [ho] at k3
        have SN2 := Lib.hid (SN.out xd (by rw [if_pos ho]))
        clear ho
        go_upto_region 8 with (first
          | (go_at_call 39; refine (CF.out _ _ _ _ _ HBX.out).mono ?_; rintro en w5 ⟨A5, n5, c5, rfl, own5, b5⟩
             have W5 := Lib.hid own5
             have B5 := Lib.hid b5
             have m1 := (b5.cell hg0w).trans k1
             have m2 := (b5.cell hg0w).trans k2
             have m3 := (b5.cell hg0w).trans k3
             have HBX5 := Lib.hid (HBX.out.on b5)
             clear own5 b5)
          | (go_at_call 9; refine (CT.out _ _ _ _ _ HBX5.out hxq2).mono ?_; rintro en w6 ⟨A6, rfl, tw6, b6⟩
             have T6 := Lib.hid tw6
             have B6 := Lib.hid b6
             have m6 := (b6.cell (Nat.lt_of_lt_of_le hg0w B5.out.size)).trans m1
             clear tw6 b6)
          | fail)
        have BN := Lib.hid (B5.out.trans (B6.out.mono B5.out.size))
        have HDN := Lib.hid (T6.out.has (HLEN.out))
        have HCN : Hid (xq ≤ xq + 3) := Lib.hid (by omega)
        have HGN : Hid (∀ b : Addr, A6 = some b → wr.heap.size ≤ b.block ∧ b.block < w6.heap.size) := Lib.hid (fun b hb => by
          obtain ⟨g6, e6, own6⟩ := T6.out
          obtain ⟨g6', e6', hg1, hg2, _⟩ := own6.x.head (by omega)
          simp only [Option.some.injEq, Addr.mk.injEq, and_true] at e6'
          rw [e6] at hb
          injection hb with hb
          subst hb
          have := B5.out.size
          subst e6'
          exact ⟨Nat.le_trans B5.out.size hg1, hg2⟩)
        have hb7 : Below wr.heap.size wr (w6.alloc (.cells #[.int .i64 xi, .slice A6 xq (xq + 3)] 60)) := BN.out.trans (((Below.refl w6.heap.size w6).alloc (Nat.le_refl _) _).mono BN.out.size)
        have N7 := Lib.hid (QP'.out.below hb7)
        have HD7 := Lib.hid (HDN.out.on ((Below.refl w6.heap.size w6).alloc (Nat.le_refl _) (.cells #[.int .i64 xi, .slice A6 xq (xq + 3)] 60)))
        have HS7 : Hid ((w6.alloc (.cells #[.int .i64 xi, .slice A6 xq (xq + 3)] 60)).heap.size = w6.heap.size + 1) := Lib.hid (by simp)
        have HF7 : Hid (∀ b : Addr, A6 = some b → (Value.slice A' k c').ownBlock ≠ some b.block ∧ b.block < (w6.alloc (.cells #[.int .i64 xi, .slice A6 xq (xq + 3)] 60)).heap.size) := Lib.hid (fun b hb => by
          obtain ⟨h1, h2⟩ := HGN.out b hb
          have h3 := HS7.out
          exact ⟨fun hh => by have := (World.ownsRow.lt QP'.out.own _ hh).2; omega, by omega⟩)
        have B7 := Lib.hid hb7
        clear hb7
        go_wp2_with (first
          | (at_builtin; refine wp_app_pu rfl (.tmp 29) (.tmp 37) rfl W.heap.size _ rs rfl N7.out w6.heap.size 1 ⟨xi, A6, xq, (xq + 3), xd⟩ rfl (heap_alloc_new _ _) HD7.out HCN.out HF7.out hxr (fun x hx b hb => Nat.lt_of_lt_of_le (QX.out x hx b hb).2 B7.out.size) (by have := QP'.out.len; omega) (Nat.le_trans QB.out.size B7.out.size) ?_
             intro A8 n8 c8 w8 pr8 b8 x8
             have PR8 := Lib.hid pr8
             have B8 := Lib.hid ((QB.out.trans (B7.out.mono QB.out.size)).trans b8)
             have X8 := Lib.hid x8
             clear pr8 b8 x8))
        have hn8 : n8 = k + 1 := by have := PR8.out.len; rw [this, List.length_append, ← QP'.out.len]; rfl
        subst hn8
        go_roundw
        case rel =>
          refine ⟨k + 1, A8, c8, _, by omega, by go_num, rfl, PR8.out, ?_, B8.out, fun y hy b hb => ⟨?_, X8.out y hy b hb⟩⟩
          · rw [← SN2.out, ← QL.out]
            unfold puL
            rw [List.map_append]
            rfl
          · rcases List.mem_append.1 hy with hy | hy
            · exact (QX.out y hy b hb).1
            · rw [List.mem_singleton] at hy
              subst hy
              have := (HGN.out b hb).1
              have := QB.out.size
              omega
        case measure => simp [Go.RowKit.intOf]; omega
      · have ho2 : x.odd = false := by simpa using ho
        rw [ho2] at k3
        have SN2 := Lib.hid (SN.out (fullL xd) (by rw [if_neg ho]))
        clear ho ho2
        go_upto_region 8 with (first
          | (go_at_call 39; refine (CF.out _ _ _ _ _ HBX.out).mono ?_; rintro en w5 ⟨A5, n5, c5, rfl, own5, b5⟩
             have W5 := Lib.hid own5
             have B5 := Lib.hid b5
             have m1 := (b5.cell hg0w).trans k1
             have m2 := (b5.cell hg0w).trans k2
             have m3 := (b5.cell hg0w).trans k3
             have HBX5 := Lib.hid (HBX.out.on b5)
             clear own5 b5)
          | fail)
        have BN := B5
        have HDN := Lib.hid W5.out.x.has
        have HCN := Lib.hid W5.out.x.caps.1
        have HGN : Hid (∀ b : Addr, A5 = some b → wr.heap.size ≤ b.block ∧ b.block < w5.heap.size) := Lib.hid (fun b hb => by
          obtain ⟨g6', e6', hg1, hg2, _⟩ := W5.out.x.head (by have := W5.out.x.len; rw [fullL_len] at this; omega)
          rw [e6'] at hb
          injection hb with hb
          subst hb
          exact ⟨hg1, hg2⟩)
        have hb7 : Below wr.heap.size wr (w5.alloc (.cells #[.int .i64 xi, .slice A5 n5 c5] 60)) := BN.out.trans (((Below.refl w5.heap.size w5).alloc (Nat.le_refl _) _).mono BN.out.size)
        have N7 := Lib.hid (QP'.out.below hb7)
        have HD7 := Lib.hid (HDN.out.on ((Below.refl w5.heap.size w5).alloc (Nat.le_refl _) (.cells #[.int .i64 xi, .slice A5 n5 c5] 60)))
        have HS7 : Hid ((w5.alloc (.cells #[.int .i64 xi, .slice A5 n5 c5] 60)).heap.size = w5.heap.size + 1) := Lib.hid (by simp)
        have HF7 : Hid (∀ b : Addr, A5 = some b → (Value.slice A' k c').ownBlock ≠ some b.block ∧ b.block < (w5.alloc (.cells #[.int .i64 xi, .slice A5 n5 c5] 60)).heap.size) := Lib.hid (fun b hb => by
          obtain ⟨h1, h2⟩ := HGN.out b hb
          have h3 := HS7.out
          exact ⟨fun hh => by have := (World.ownsRow.lt QP'.out.own _ hh).2; omega, by omega⟩)
        have B7 := Lib.hid hb7
        clear hb7
        go_wp2_with (first
          | (at_builtin; refine wp_app_pu rfl (.tmp 29) (.tmp 37) rfl W.heap.size _ rs rfl N7.out w5.heap.size 1 ⟨xi, A5, n5, c5, (fullL xd)⟩ rfl (heap_alloc_new _ _) HD7.out HCN.out HF7.out hxr (fun x hx b hb => Nat.lt_of_lt_of_le (QX.out x hx b hb).2 B7.out.size) (by have := QP'.out.len; omega) (Nat.le_trans QB.out.size B7.out.size) ?_
             intro A8 n8 c8 w8 pr8 b8 x8
             have PR8 := Lib.hid pr8
             have B8 := Lib.hid ((QB.out.trans (B7.out.mono QB.out.size)).trans b8)
             have X8 := Lib.hid x8
             clear pr8 b8 x8))
        have hn8 : n8 = k + 1 := by have := PR8.out.len; rw [this, List.length_append, ← QP'.out.len]; rfl
        subst hn8
        go_roundw
        case rel =>
          refine ⟨k + 1, A8, c8, _, by omega, by go_num, rfl, PR8.out, ?_, B8.out, fun y hy b hb => ⟨?_, X8.out y hy b hb⟩⟩
          · rw [← SN2.out, ← QL.out]
            unfold puL
            rw [List.map_append]
            rfl
          · rcases List.mem_append.1 hy with hy | hy
            · exact (QX.out y hy b hb).1
            · rw [List.mem_singleton] at hy
              subst hy
              have := (HGN.out b hb).1
              have := QB.out.size
              omega
        case measure => simp [Go.RowKit.intOf]; omega
    · obtain rfl : k = n := by omega
      go_wp2_with fail
      go_ret
      refine ⟨A', c', rs, rfl, QP'.out, ?_, QB.out, QX.out⟩
      rw [QL.out, List.take_of_length_le (by rw [← HL.out]; exact Nat.le_refl _)]
end Go.Proofs.Ytadagbkfemcgfaa
