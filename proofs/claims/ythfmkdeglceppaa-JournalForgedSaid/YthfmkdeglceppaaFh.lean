/-
  Own work. JournalForged: what stands behind a round's last row.
-/
import Derived.Test.YthfmkdeglceppaaFg
import Derived.Test.YthfmkdeglceppaaFv
namespace Go.Proofs.Ythfmkdeglceppaa
open Go.RowKit Go.Maps
set_option linter.unusedVariables false
set_option linter.unusedSimpArgs false

theorem ownB1 {g n c k : Nat} (h : (Value.slice (some ⟨g, 0, none⟩) n c).ownBlock = some k) : k = g := by
  have h2 : some g = some k := h
  injection h2 with h2
  exact h2.symm
section
variable {Z : DK} {w W w12 : World} {g gd gp g5 gw cw g12 c12 i i2 : Nat} {p : Pt} {j : JM} {hs : List Value} {H : Nat → List UInt8} {d : List UInt8}
theorem fo_y (gr : Only (fun k => (Value.slice (some ⟨W.heap.size, 0, none⟩) 0 0).ownBlock = some k) (W.alloc (.cells #[] 9)) w12) : Only (fun k => W.heap.size ≤ k) W w12 :=
  (Only.below ((Below.refl _ _).alloc (Nat.le_refl _) _)).trans (gr.mono (fun k _ hk => by rw [ownB1 hk]; exact Nat.le_refl _))
theorem fo_has (U : UpB Z w W g gd gp 64 p j (fun q => q = gw ∨ q = g5)) (hb : HasB W W.heap.size (some ⟨g5, 0, none⟩) 512 d)
    (gr : Only (fun k => (Value.slice (some ⟨W.heap.size, 0, none⟩) 0 0).ownBlock = some k) (W.alloc (.cells #[] 9)) w12) : HasB w12 w12.heap.size (some ⟨g5, 0, none⟩) 512 d :=
  hb.far (fo_y gr) (fun a ha hh => by
    injection ha with ha
    subst ha
    have h5 := (U.lt g5 (.inr rfl)).2
    have hh' : W.heap.size ≤ g5 := hh
    omega)
theorem fo_pkg (U : UpB Z w W g gd gp 64 p j (fun q => q = gw ∨ q = g5)) (O : OwnV 9 W w.heap.size (.slice (some ⟨gw, 0, none⟩) 50 cw) hs)
    (gr : Only (fun k => (Value.slice (some ⟨W.heap.size, 0, none⟩) 0 0).ownBlock = some k) (W.alloc (.cells #[] 9)) w12)
    (ob : (Value.slice (some ⟨g12, 0, none⟩) 50 c12).ownBlock = (Value.slice (some ⟨W.heap.size, 0, none⟩) 0 0).ownBlock ∨ (Value.slice (some ⟨g12, 0, none⟩) 50 c12).ownBlock = some (W.alloc (.cells #[] 9)).heap.size)
    (o12 : OwnV 9 w12 w.heap.size (.slice (some ⟨g12, 0, none⟩) 50 c12) ([] ++ strs (hsL H 50))) (hi : i < 50) (hi2 : (i + 1) % 50 = i2) :
    UpB Z w ((w12.setCell ⟨g12, i, none⟩ (.string (strB d))).setCell ⟨g12, i2, none⟩ (.string (strB d))).drew g gd gp 64 p j (fun q => q = gw ∨ q = g12) ∧
    OwnV 9 ((w12.setCell ⟨g12, i, none⟩ (.string (strB d))).setCell ⟨g12, i2, none⟩ (.string (strB d))).drew w.heap.size (.slice (some ⟨gw, 0, none⟩) 50 cw) hs ∧
    OwnV 9 ((w12.setCell ⟨g12, i, none⟩ (.string (strB d))).setCell ⟨g12, i2, none⟩ (.string (strB d))).drew w.heap.size (.slice (some ⟨g12, 0, none⟩) 50 c12) (strs (hsL (foH H i d) 50)) := by
  subst hi2
  rw [List.nil_append] at o12
  have hlen : (strs (hsL H 50)).length = 50 := by simp [strs, hsL_len]
  have hge : W.heap.size ≤ g12 := by
    rcases ob with h | h
    · have := ownB1 (h.trans rfl : (Value.slice (some ⟨g12, 0, none⟩) 50 c12).ownBlock = some W.heap.size)
      omega
    · have := ownB1 h
      simp at this
      omega
  have hlt : g12 < w12.heap.size := by
    obtain ⟨g', e', _, h1, _⟩ := o12.at_ (by decide)
    injection e' with e'
    injection e' with e'
    subst e'
    exact h1
  have y1 := fo_y gr
  have y2 := (y1.setCell (p := ⟨g12, i, none⟩) hge (.string (strB d))).setCell (p := ⟨g12, (i + 1) % 50, none⟩) hge (.string (strB d))
  obtain ⟨w2, hw2⟩ : ∃ w2, (w12.setCell ⟨g12, i, none⟩ (.string (strB d))).setCell ⟨g12, (i + 1) % 50, none⟩ (.string (strB d)) = w2 := ⟨_, rfl⟩
  have y3 : Only (fun k => W.heap.size ≤ k) W w2.drew := by
    rw [← hw2]
    exact y2.trans' (Only.of_below (S := fun _ => False) (show Below _ _ _ from ⟨rfl, rfl, rfl, Nat.le_refl _, fun _ _ => rfl⟩) (Nat.le_refl _)) (fun _ _ h => h.elim)
  have hsz : w2.drew.heap.size = w12.heap.size := by rw [← hw2]; simp [World.setCell, World.drew]
  have hgw := U.lt gw (.inl rfl)
  have o3 := (o12.set (k := i) (u := .string (strB d)) (by omega) rfl).set (k := (i + 1) % 50) (u := .string (strB d)) (by rw [List.length_set, hlen]; exact Nat.mod_lt _ (by decide)) rfl
  rw [hw2] at o3 ⊢
  rw [foH_row H i d hi] at o3
  refine ⟨U.own (y3.mono (fun k _ hk => .inr hk)) (fun q hq => hq.elim (fun h => .inl (.inl h)) (fun h => .inr (by subst h; exact ⟨hge, by omega⟩))), O.only y3 (fun b hb hh => ?_), o3⟩
  have := ownB1 hb
  have hh' : W.heap.size ≤ b := hh
  omega
end
end Go.Proofs.Ythfmkdeglceppaa
