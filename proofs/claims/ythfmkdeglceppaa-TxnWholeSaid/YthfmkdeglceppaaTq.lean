/-
  Own work. A transaction's list of what is to be committed.
-/
import Derived.Test.YthfmkdeglceppaaTp
namespace Go.Proofs.Ythfmkdeglceppaa
open Go.RowKit Go.Maps Go.Sort Go.Shelf
set_option linter.unusedVariables false
set_option linter.unusedSimpArgs false

theorem PRow.base {w : World} {base b2 : Nat} {v : Value} {l : List PuR} (h : PRow w base v l) (hb : b2 ≤ base) : PRow w b2 v l := by
  refine ⟨⟨h.own.1, ?_⟩, h.dat, h.rng⟩
  rcases h.own.2 with h2 | ⟨g, c, cur, e, h3, r⟩
  · exact .inl h2
  · exact .inr ⟨g, c, cur, e, Nat.le_trans hb h3, r⟩
theorem tPu_len (ws : List ByteArray) (h : Nat) : (tPu ws h).length = (frK ws h).length := by simp [tPu]
theorem tPu_at {ws : List ByteArray} {h k i : Nat} (hk : (frK ws h)[k]? = some i) : (tPu ws h).take (k + 1) = (tPu ws h).take k ++ [⟨(i : Int), lst (ws.getD i emp)⟩] := by
  rw [List.take_add_one]
  have : (tPu ws h)[k]? = some ⟨(i : Int), lst (ws.getD i emp)⟩ := by
    unfold tPu
    rw [List.getElem?_map, hk]
    rfl
  rw [this]
  rfl
section
variable {w w' W : World} {gt g gd gp gm T h q n : Nat} {ws : List ByteArray} {M S B : Nat → Prop} {v : Value} {Z : DK} {w0 : World} {p : Pt} {j : JM}
/-- What the list is. -/
def RetPu (w : World) (ws : List ByteArray) (h : Nat) (en : Ending) (w' : World) : Prop :=
  ∃ A c rs, en = .returned (.slice A (frK ws h).length c) ∧ PRow w' w.heap.size (.slice A (frK ws h).length c) rs ∧ puL rs = tPu ws h ∧ Below w.heap.size w w'
set_option maxRecDepth 100000 in
set_option maxHeartbeats 2000000 in
theorem tputs_any (a : TO w gt g T h q ws M) (hq : q ≤ 1073741824) : Calls Try.prog 63 #[.pointer (some ⟨gt, 0, none⟩)] w (RetPu w ws h) := by
  obtain ⟨gm, c0, c1, c2, v, hblk⟩ := a.cells
  have hgt := a.lt
  have hh := v.hh
  have SO := Lib.hid (tsorted_any v hq)
  have CK := Lib.hid (fun mb W => tkeys_any mb W)
  have V := Lib.hid v
  have HB := Lib.hid hblk
  obtain ⟨N, hN⟩ : ∃ N, (frK ws h).length = N := ⟨_, rfl⟩
  have HN := Lib.hid hN
  have hN2 : N ≤ 4096 := by rw [← hN]; exact Nat.le_trans (frK_len ws h) hh
  have hR : RetPu w ws h = fun en w' => ∃ A c rs, en = .returned (.slice A N c) ∧ PRow w' w.heap.size (.slice A N c) rs ∧ puL rs = tPu ws h ∧ Below w.heap.size w w' := by
    unfold RetPu
    rw [hN]
  rw [hR]
  clear a v hblk hN hR
  go_enter Try.func63, Try.ntmps63
  go_upto_region 3 with (first
    | (go_at_call 82; refine (CK.out _ _).mono ?_; rintro e w1 ⟨rfl, rfl⟩)
    | (go_at_call 75; refine SO.out.mono ?_; rintro e w2 ⟨A2, n2, c2', rfl, o2, b2⟩
       have hn2 := o2.len
       rw [show (ints (frK ws h)).length = N by unfold ints; rw [List.length_map]; exact HN.out] at hn2
       subst hn2
       have O2 := Lib.hid o2
       have B2 := Lib.hid b2
       clear o2 b2))
  go_loopw [3, 13] (fun l x wr => ∃ (k : Nat) (A' : Option Addr) (c' : Nat) (rs : List PuR), k ≤ n2 ∧ x = .int .i64 (k : Int) ∧ l = .slice A' k c' ∧ PRow wr w2.heap.size (.slice A' k c') rs ∧ puL rs = (tPu ws h).take k ∧ Below w2.heap.size w2 wr ∧ ∀ y ∈ rs, ∀ b, y.A = some b → b.block < wr.heap.size) (fun _ x _ => n2 - (Go.RowKit.intOf x).toNat)
  case atStart => exact ⟨0, none, 0, [], Nat.zero_le _, rfl, rfl, PRow.nil _ _, rfl, Below.refl _ _, fun x hx => absurd hx (by simp)⟩
  case round =>
    obtain ⟨k, A', c', rs, hk, rfl, rfl, qp, ql, qb, qx⟩ := hrel
    have RP := Lib.hid qp
    have RL := Lib.hid ql
    have RB := Lib.hid qb
    have RX := Lib.hid qx
    clear qp ql qb qx
    by_cases hlt : k < n2
    · obtain ⟨i, hi⟩ : ∃ i, (frK ws h)[k]? = some i := ⟨_, List.getElem?_eq_getElem (by rw [HN.out]; exact hlt)⟩
      obtain ⟨hih, hne⟩ := frK_mem (List.mem_of_getElem? hi)
      obtain ⟨g1, rfl, _, hg1, hc1⟩ := O2.out.at_ (by omega)
      have k1 : wr.cell? ⟨g1, k, none⟩ = some (.int .i64 (i : Int)) := (RB.out.cell hg1).trans (hc1 k _ (by unfold ints; rw [List.getElem?_map, hi]; rfl))
      have hbw : Below w.heap.size w wr := B2.out.trans (RB.out.mono B2.out.size)
      have k2 : wr.cell? ⟨gt, 2, none⟩ = some (.map (some gm)) := (hbw.cell hgt).trans c2
      have v2 := V.out.only (Only.of_below (S := fun _ => False) hbw (Nat.le_refl _)) (fun _ _ h => h)
      obtain ⟨⟨D, pb, hm, hD, hbs⟩, mg, ml, wl, wz, _⟩ := v2
      have LK := lookT D pb hm hD hh hih hne
      obtain ⟨m1, m2⟩ := hbs i hih hne
      have hl : (lst (ws.getD i emp)).length = 512 := by
        have hmem : ws.getD i emp ∈ ws := by
          rw [List.getD_eq_getElem?_getD, List.getElem?_eq_getElem (by omega)]
          exact List.getElem_mem _
        rcases wz _ hmem with h0 | h0
        · exact absurd h0 hne
        · exact h0
      have SN := Lib.hid (tPu_at hi)
      obtain ⟨s, hs⟩ : ∃ s, lst (ws.getD i emp) = s := ⟨_, rfl⟩
      rw [hs] at m2 hl SN
      have hpbw : pb i < w.heap.size := V.out.ml _ m1
      obtain ⟨b, hbd⟩ : ∃ b, pb i = b := ⟨_, rfl⟩
      rw [hbd] at LK m2 hpbw
      have hbr : b < wr.heap.size := Nat.lt_of_lt_of_le hpbw hbw.size
      have HDB : Hid (HasB wr wr.heap.size (some ⟨b, 0, none⟩) 512 s) := Lib.hid (m2.has hl.symm)
      have hxr : -9223372036854775808 ≤ (i : Int) ∧ (i : Int) ≤ 9223372036854775807 := by omega
      have B7 : Hid (Below wr.heap.size wr (wr.alloc (.cells #[.int .i64 (i : Int), .slice (some ⟨b, 0, none⟩) 512 512] 46))) := Lib.hid ((Below.refl _ _).alloc (Nat.le_refl _) _)
      have N7 := Lib.hid (RP.out.below B7.out)
      have HD7 := Lib.hid (HDB.out.on B7.out)
      have HS7 : Hid ((wr.alloc (.cells #[.int .i64 (i : Int), .slice (some ⟨b, 0, none⟩) 512 512] 46)).heap.size = wr.heap.size + 1) := Lib.hid (by simp)
      have hw2 : w.heap.size ≤ w2.heap.size := B2.out.size
      have HF7 : Hid (∀ a : Addr, (some ⟨b, 0, none⟩ : Option Addr) = some a → (Value.slice A' k c').ownBlock ≠ some a.block ∧ a.block < (wr.alloc (.cells #[.int .i64 (i : Int), .slice (some ⟨b, 0, none⟩) 512 512] 46)).heap.size) := Lib.hid (fun a ha => by
        injection ha with ha
        subst ha
        rw [HS7.out]
        exact ⟨fun hh => by have := (World.ownsRow.lt RP.out.own _ hh).1; dsimp only at this; omega, by show b < _; omega⟩)
      clear hi hc1 hm hD hbs mg ml wl wz m1 m2 hl hs hbd hne
      go_wp2_with (first
        | (at_builtin; refine wp_app_pu rfl (.tmp 17) (.tmp 28) rfl w2.heap.size _ rs rfl N7.out wr.heap.size 1 ⟨(i : Int), some ⟨b, 0, none⟩, 512, 512, s⟩ rfl (heap_alloc_new _ _) HD7.out (Nat.le_refl _) HF7.out hxr (fun x hx a ha => Nat.lt_of_lt_of_le (RX.out x hx a ha) B7.out.size) (by have := RP.out.len; omega) (Nat.le_trans RB.out.size B7.out.size) ?_
           intro A8 n8 c8 w8 pr8 b8 x8
           have PR8 := Lib.hid pr8
           have B8 := Lib.hid ((RB.out.trans (B7.out.mono RB.out.size)).trans b8)
           have X8 := Lib.hid x8
           clear pr8 b8 x8))
      have hn8 : n8 = k + 1 := by have := PR8.out.len; rw [this, List.length_append, ← RP.out.len]; rfl
      subst hn8
      go_roundw
      case rel =>
        refine ⟨k + 1, A8, c8, _, by omega, by go_num, rfl, PR8.out, ?_, B8.out, X8.out⟩
        rw [SN.out, ← RL.out]
        unfold puL
        rw [List.map_append]
        rfl
      case measure => simp [Go.RowKit.intOf]; omega
    · obtain rfl : k = n2 := by omega
      go_wp2_with fail
      go_ret
      refine ⟨A', c', rs, rfl, RP.out.base B2.out.size, ?_, B2.out.trans (RB.out.mono B2.out.size)⟩
      rw [RL.out, List.take_of_length_le (by rw [tPu_len, HN.out]; exact Nat.le_refl _)]
end
end Go.Proofs.Ythfmkdeglceppaa
