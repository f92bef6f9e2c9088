/-
  Own work. JournalFront: what its loops keep: rows of texts, a row of such rows, what stands behind a failure.
-/
import Derived.Test.YtadagbkfemcgfaaFf
import Derived.Test.YtadagbkfemcgfaaAk
import Derived.Test.YtadagbkfemcgfaaPr
namespace Go.Proofs.Ytadagbkfemcgfaa
open Go.RowKit Go.Maps
set_option linter.unusedVariables false
set_option linter.unusedSimpArgs false

theorem ownB1 {g n c k : Nat} (h : (Value.slice (some ⟨g, 0, none⟩) n c).ownBlock = some k) : k = g := by
  have h2 : some g = some k := h
  injection h2 with h2
  exact h2.symm
theorem OwnV.base {E : TypeId} {w : World} {base b2 : Nat} {v : Value} {hs : List Value} (h : OwnV E w base v hs) (hb : b2 ≤ base) : OwnV E w b2 v hs := by
  refine ⟨h.1, ?_⟩
  rcases h.2 with h2 | ⟨g, c, cur, e, h3, r⟩
  · exact .inl h2
  · exact .inr ⟨g, c, cur, e, Nat.le_trans hb h3, r⟩
theorem ownV_empty (E : TypeId) (w : World) (base : Nat) (hb : base ≤ w.heap.size) : OwnV E (w.alloc (.cells #[] E)) base (.slice (some ⟨w.heap.size, 0, none⟩) 0 0) [] :=
  ⟨rfl, .inr ⟨w.heap.size, 0, #[], rfl, hb, heap_alloc_new w _, Nat.le_refl _, by decide, rfl, rfl⟩⟩
theorem ownV_one (E : TypeId) (w : World) (base : Nat) (v : Value) (hb : base ≤ w.heap.size) : OwnV E (w.alloc (.cells #[v] E)) base (.slice (some ⟨w.heap.size, 0, none⟩) 1 1) [v] :=
  ⟨rfl, .inr ⟨w.heap.size, 1, #[v], rfl, hb, heap_alloc_new w _, Nat.le_refl _, by decide, rfl, rfl⟩⟩
theorem OwnV.src {E : TypeId} {w : World} {base gw n cw : Nat} {hs : List Value} (h : OwnV E w base (.slice (some ⟨gw, 0, none⟩) n cw) hs) (hn : 0 < n) : ∀ j u, hs[j]? = some u → w.cell? ((⟨gw, 0, none⟩ : Addr).add j) = some u := by
  intro j u hj
  obtain ⟨g', e', _, _, hc⟩ := h.at_ hn
  injection e' with e'
  injection e' with e'
  subst e'
  rw [Addr.add_lit, Nat.zero_add]
  exact hc j u hj
theorem OwnV.ne {E F : TypeId} {w : World} {base b2 g k n c m d : Nat} {hs us : List Value} (h : OwnV E w base (.slice (some ⟨g, 0, none⟩) n c) hs) (h2 : OwnV F w b2 (.slice (some ⟨k, 0, none⟩) m d) us) (hE : E ≠ F) : g ≠ k := by
  intro e
  subst e
  rcases h.form with ⟨e, _⟩ | ⟨g1, c1, cur1, e1, _, _, hg1, _⟩
  · cases e
  rcases h2.form with ⟨e, _⟩ | ⟨g2, c2, cur2, e2, _, _, hg2, _⟩
  · cases e
  simp only [Value.slice.injEq, Option.some.injEq, Addr.mk.injEq, and_true] at e1 e2
  obtain ⟨rfl, -, -⟩ := e1
  obtain ⟨rfl, -, -⟩ := e2
  rw [hg1] at hg2
  simp only [Option.some.injEq, Obj.cells.injEq] at hg2
  exact hE hg2.2.1
theorem OwnV.ptr {E : TypeId} {w : World} {base n c : Nat} {A : Option Addr} {hs : List Value} (h : OwnV E w base (.slice A n c) hs) (hn : 0 < n) : ∃ g, A = some ⟨g, 0, none⟩ ∧ base ≤ g ∧ g < w.heap.size := by
  obtain ⟨g, e, h1, h2, _⟩ := h.at_ hn
  exact ⟨g, e, h1, h2⟩
theorem OwnV.free {E : TypeId} {w : World} {base g n c : Nat} {hs : List Value} (h : OwnV E w base (.slice (some ⟨g, 0, none⟩) n c) hs) (i : Nat) : w.frozen? ⟨g, i, none⟩ = false := by
  rcases h.form with ⟨e, _⟩ | ⟨g2, c', cur, e, _, _, hg, _⟩
  · cases e
  · simp only [Value.slice.injEq, Option.some.injEq, Addr.mk.injEq, and_true] at e
    obtain ⟨rfl, -, -⟩ := e
    exact frozen_of_row w g i _ _ hg
theorem strs_ones (l : List (List UInt8)) : ∀ u ∈ strs l, u.oneCell' = true := by
  intro u hu
  unfold strs at hu
  obtain ⟨x, _, rfl⟩ := List.mem_map.1 hu
  rfl
theorem strs_len (H : Nat → List UInt8) (h : Nat) : (strs (hsL H h)).length = h := by simp [strs, hsL_len]
theorem strs_some (H : Nat → List UInt8) {h i : Nat} (hi : i < h) : ∃ v, (strs (hsL H h))[i]? = some v := ⟨_, List.getElem?_eq_getElem (by rw [strs_len]; exact hi)⟩
theorem infoSS : (Try.prog.info? 48).map (fun i => (i.zero, i.size, i.bytes)) = some (some (.slice none 0 0), 1, 24) := by kernel_rfl
theorem alike_s {W : World} {A B : Option Addr} {n c d : Nat} {xs ys : List (List UInt8)} (ha : HasS W A n xs) (hb : HasS W B n ys) (hn : n ≤ 100000) (b : Bool) (h : decide (xs = ys) = b) :
    Calls Try.prog 30 #[.slice A n c, .slice B n d] W fun en W' => en = .returned (.bool b) ∧ Below W.heap.size W W' := by
  have q := alike_any (c := c) (d := d) ha hb hn hn
  rw [h] at q
  refine q.mono ?_
  rintro en W' ⟨rfl, k, rfl⟩
  exact ⟨rfl, ⟨rfl, rfl, rfl, Nat.le_refl _, fun _ _ => rfl⟩⟩
theorem Aft.more {m : RM} {n V V' : Nat} {R R' : (Nat → List UInt8) → Prop} (a : Aft m n V R) (h : V ≤ V') (hR : ∀ g, R g → R' g) : Aft m n V' R' := by
  obtain ⟨ok, hw, Q, hm, hf⟩ := a
  exact ⟨ok, by omega, Q, hm, fun g hg => hR g (hf g hg)⟩
theorem OnB.dead {Z : DK} {w0 W : World} {gd n : Nat} {m : RM} {B : Nat → Prop} (a : OnB Z w0 W gd n m B) (ok : m.Ok n) :
    Calls Try.prog 25 #[.pointer (some ⟨gd, 0, none⟩)] W (RetV2 W (.bool m.off)) := by
  obtain ⟨S, d, _⟩ := a
  exact Z.dead_any d.d ok
theorem OnB.less {Z : DK} {w0 W : World} {gd n : Nat} {m : RM} {B B' : Nat → Prop} (a : OnB Z w0 W gd n m B) (h : ∀ k, B' k → B k) : OnB Z w0 W gd n m B' := a.own (Only.refl _ _) (fun k hk => .inl (h k hk))

theorem Only.cellO {w w' : World} {S : Nat → Prop} {p : Addr} (h : Only S w w') (hp : p.block < w.heap.size) (hS : ¬ S p.block) : w'.cell? p = w.cell? p := by
  unfold World.cell?
  rw [h.block _ hp hS]
/-! ### What was made to be committed, and where it lies -/
/-- What a list reads as, its blocks from a to b. -/
def PuF (W : World) (a b : Nat) (A : Option Addr) (l : List Pu) : Prop :=
  ∀ k x, l[k]? = some x → ∃ g B q c, A = some ⟨g, 0, none⟩ ∧ W.cell? ⟨g, k * 2, none⟩ = some (.int .i64 x.i) ∧ W.cell? ⟨g, k * 2 + 1, none⟩ = some (.slice B q c) ∧ HasB W W.heap.size B q x.data ∧ q ≤ c ∧ a ≤ g ∧ g < b ∧ b ≤ W.heap.size ∧ ∀ ad, B = some ad → a ≤ ad.block ∧ ad.block < b
theorem PuF.only {W W' : World} {a b : Nat} {A : Option Addr} {l : List Pu} {S : Nat → Prop} (h : PuF W a b A l) (ho : Only S W W') (hS : ∀ k, a ≤ k → k < b → ¬ S k) : PuF W' a b A l := by
  intro k x hx
  obtain ⟨g, B, q, c, e, h1, h2, h3, h4, h5, h6, h7, h8⟩ := h k x hx
  have hz := ho.size
  exact ⟨g, B, q, c, e, (ho.cellO (by show g < _; omega) (hS g h5 h6)).trans h1, (ho.cellO (by show g < _; omega) (hS g h5 h6)).trans h2, h3.far ho (fun ad had => hS _ (h8 ad had).1 (h8 ad had).2), h4, h5, h6, by omega, h8⟩
theorem PRow.puF {W : World} {a n c : Nat} {A : Option Addr} {rs : List PuR} (h : PRow W a (.slice A n c) rs) (hx : ∀ x ∈ rs, ∀ b, x.A = some b → a ≤ b.block ∧ b.block < W.heap.size) : PuF W a W.heap.size A (puL rs) := by
  intro k x hk
  have hl := h.len
  unfold puL at hk
  rw [List.getElem?_map] at hk
  cases hr : rs[k]? with
  | none => rw [hr] at hk; cases hk
  | some y =>
    rw [hr] at hk
    simp only [Option.map_some, Option.some.injEq] at hk
    subst hk
    have hm := List.mem_of_getElem? hr
    have hkl := (List.getElem?_eq_some_iff.1 hr).1
    obtain ⟨g, cur, rfl, hb, hg, h1, ht, _, _⟩ := h.row (by omega)
    obtain ⟨f1, f2⟩ := flat_at rs k y hr
    have q1 := cur_at ht f1
    have q2 := cur_at ht f2
    obtain ⟨d1, d2, _⟩ := h.dat y hm
    exact ⟨g, y.A, y.q, y.c, rfl, by rw [cell_of_row _ _ _ _ _ _ hg]; exact q1, by rw [cell_of_row _ _ _ _ _ _ hg]; exact q2, d1, d2, hb, (Array.getElem?_eq_some_iff.1 hg).1, Nat.le_refl _, hx y hm⟩
theorem Only.set1 {S : Nat → Prop} {w wr : World} {gx i : Nat} (h : Only S w wr) (hg : S gx) (v : Value) : Only S w (wr.setCell ⟨gx, i, none⟩ v).drew :=
  (h.setCell (p := ⟨gx, i, none⟩) hg v).trans' (Only.of_below (S := fun _ => False) (show Below _ _ _ from ⟨rfl, rfl, rfl, Nat.le_refl _, fun _ _ => rfl⟩) (Nat.le_refl _)) (fun _ _ h => h.elim)
theorem one_src (W : World) (x : Value) (E : TypeId) : ∀ j u, ([x] : List Value)[j]? = some u → (W.alloc (.cells #[x] E)).cell? ((⟨W.heap.size, 0, none⟩ : Addr).add j) = some u := by
  intro j u hj
  match j with
  | 0 =>
    simp only [List.getElem?_cons_zero, Option.some.injEq] at hj
    subst hj
    rw [Addr.add_lit]
    exact cell_of_row _ _ 0 _ _ (0, 0) (heap_alloc_new W _)
  | j + 1 => simp at hj
/-! ### A row of rows that one is appended to -/
theorem app_facts {W w' : World} {base gs ns cs n' c' : Nat} {A' : Option Addr} {vs : List Value} {x : Value} (O : OwnV 48 W base (.slice (some ⟨gs, 0, none⟩) ns cs) vs)
    (gr : (W.alloc (.cells #[x] 48)).grownBy w' (Value.slice (some ⟨gs, 0, none⟩) ns cs).ownBlock) (o' : OwnV 48 w' base (.slice A' n' c') (vs ++ [x]))
    (ob : (Value.slice A' n' c').ownBlock = (Value.slice (some ⟨gs, 0, none⟩) ns cs).ownBlock ∨ (Value.slice A' n' c').ownBlock = some (W.alloc (.cells #[x] 48)).heap.size) :
    ∃ gs', A' = some ⟨gs', 0, none⟩ ∧ n' = ns + 1 ∧ Only (fun k => k = gs ∨ W.heap.size ≤ k) W w' ∧ (gs' = gs ∨ W.heap.size ≤ gs') ∧ gs' < w'.heap.size := by
  have hl := o'.len
  rw [List.length_append, ← O.len] at hl
  have hl' : n' = ns + 1 := hl
  obtain ⟨gs', rfl, _, hlt⟩ := o'.ptr (by omega)
  refine ⟨gs', rfl, hl', ?_, ?_, hlt⟩
  · exact ((Only.of_below (S := fun k => k = gs ∨ W.heap.size ≤ k) ((Below.refl W.heap.size W).alloc (Nat.le_refl _) (.cells #[x] 48)) (Nat.le_refl _))).trans ((Only.grownO gr).mono (fun k _ hk => .inl (ownB1 hk)))
  · rcases ob with h | h
    · exact .inl (ownB1 (h.symm.trans rfl : (Value.slice (some ⟨gs, 0, none⟩) ns cs).ownBlock = some gs'))
    · refine .inr ?_
      have := ownB1 h
      simp at this
      omega

/-! ### What the loops keep -/
/-- The power has not failed: the journal, the last state. -/
def Al (Z : DK) (w W : World) (g gd gp r h V ns : Nat) (s20 s21 : Value) : Prop :=
  ∃ (T u cs gs gl cl : Nat) (p : Pt) (j : JM) (H : Nat → List UInt8) (vs : List Value), s20 = .slice (some ⟨gs, 0, none⟩) ns cs ∧ s21 = .int .i64 ((ns - 1 : Nat) : Int) ∧ 1 ≤ ns ∧
    UpB Z w W g gd gp 72 p j (fun q => q = gs ∨ q = gl) ∧ SA p 72 V j T u r H ∧ p.m.powers = 0 ∧ OwnV 48 W w.heap.size (.slice (some ⟨gs, 0, none⟩) ns cs) vs ∧
    vs[ns - 1]? = some (.slice (some ⟨gl, 0, none⟩) h cl) ∧ OwnV 9 W w.heap.size (.slice (some ⟨gl, 0, none⟩) h cl) (strs (hsL H h))
/-- What is found behind a Power: the state of all that was OK, or the one behind it. -/
def Exs (Z : DK) (w W : World) (gd r h : Nat) (s20 s21 : Value) (m : RM) : Prop :=
  ∃ (d ns cs gs gl cl gy cy : Nat) (H H' : Nat → List UInt8) (vs : List Value), s20 = .slice (some ⟨gs, 0, none⟩) ns cs ∧ s21 = .int .i64 (d : Int) ∧ ns ≤ 40 ∧
    OnB Z w W gd 72 m (fun q => q = gs ∨ q = gl ∨ q = gy) ∧ m.powers = 0 ∧ Aft m 72 3000 (fun f => (∃ T, Rec 72 3000 r T H f) ∨ ∃ T, Rec 72 3000 r T H' f) ∧
    OwnV 48 W w.heap.size (.slice (some ⟨gs, 0, none⟩) ns cs) vs ∧ vs[d]? = some (.slice (some ⟨gl, 0, none⟩) h cl) ∧ OwnV 9 W w.heap.size (.slice (some ⟨gl, 0, none⟩) h cl) (strs (hsL H h)) ∧
    ((ns = d + 1 ∧ H' = H) ∨ (ns = d + 2 ∧ vs[d + 1]? = some (.slice (some ⟨gy, 0, none⟩) h cy) ∧ OwnV 9 W w.heap.size (.slice (some ⟨gy, 0, none⟩) h cy) (strs (hsL H' h))))
section
variable {Z : DK} {w W W' : World} {g gd gp r h V ns : Nat} {s20 s21 : Value} {m : RM}
theorem Al.exs (a : Al Z w W g gd gp r h V ns s20 s21) (hV : V ≤ 3000) (hn : ns ≤ 40) : ∃ m, Exs Z w W gd r h s20 s21 m := by
  obtain ⟨T, u, cs, gs, gl, cl, p, j, H, vs, rfl, rfl, h1, U, sa, pw, O, hv, R⟩ := a
  exact ⟨p.m, ns - 1, ns, cs, gs, gl, cl, gl, cl, H, H, vs, rfl, rfl, hn, U.disk.less (fun q hq => hq.elim .inl (fun h => .inr (h.elim id id))), pw, sa.aftF.more hV (fun f hf => .inl ⟨T, hf.more hV⟩), O, hv, R, .inl ⟨by omega, rfl⟩⟩
theorem Exs.below (a : Exs Z w W gd r h s20 s21 m) (hb : Below W.heap.size W W') : Exs Z w W' gd r h s20 s21 m := by
  obtain ⟨d, ns, cs, gs, gl, cl, gy, cy, H, H', vs, e1, e2, h1, D, pw, af, O, hv, R, hh⟩ := a
  exact ⟨d, ns, cs, gs, gl, cl, gy, cy, H, H', vs, e1, e2, h1, D.below hb, pw, af, O.below hb, hv, R.below hb, hh.elim .inl (fun q => .inr ⟨q.1, q.2.1, q.2.2.below hb⟩)⟩
end
/-- The state found is that of all that was OK, or the next one, which stands in the row of states. -/
def Sec (w W : World) (d ns gy cy h : Nat) (vs : List Value) (K H : Nat → List UInt8) : Prop :=
  K = H ∨ (ns = d + 2 ∧ vs[d + 1]? = some (.slice (some ⟨gy, 0, none⟩) h cy) ∧ OwnV 9 W w.heap.size (.slice (some ⟨gy, 0, none⟩) h cy) (strs (hsL K h)))
theorem Sec.only {w W W' : World} {d ns gy cy h : Nat} {vs : List Value} {K H : Nat → List UInt8} {S : Nat → Prop} (a : Sec w W d ns gy cy h vs K H) (y : Only S W W') (hS : ¬ S gy) : Sec w W' d ns gy cy h vs K H :=
  a.imp id (fun q => ⟨q.1, q.2.1, q.2.2.only y (fun b hb => by rw [ownB1 hb]; exact hS)⟩)
theorem Sec.below {w W W' : World} {d ns gy cy h : Nat} {vs : List Value} {K H : Nat → List UInt8} (a : Sec w W d ns gy cy h vs K H) (hb : Below W.heap.size W W') : Sec w W' d ns gy cy h vs K H :=
  a.imp id (fun q => ⟨q.1, q.2.1, q.2.2.below hb⟩)
end Go.Proofs.Ytadagbkfemcgfaa
