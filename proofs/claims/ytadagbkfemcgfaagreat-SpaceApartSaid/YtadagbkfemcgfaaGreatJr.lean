/-
  Own work. The journal in memory; its small functions.
-/
import Derived.Test.YtadagbkfemcgfaaGreatJo
namespace Go.Proofs.YtadagbkfemcgfaaGreat
open Go.RowKit Go.Maps
set_option linter.unusedVariables false
set_option linter.unusedSimpArgs false

def jC (gd gp : Nat) (e : Int) (j : JM) : Array Value :=
  #[.pointer (some ⟨gd, 0, none⟩), .int .i64 e, .int .u64 (j.k.num : Int), .int .u64 (j.k.turn : Int), .int .u32 (j.k.pos : Int), .int .u32 (j.k.ring : Int), .int .i64 (j.lives : Int), .int .i64 (j.used : Int), .map (some gp)]
/-- What a journal on a disk of n keeps at all times. -/
structure JM.Ok (j : JM) (n : Nat) : Prop where
  nm : j.k.num < 9223372036854775808
  tn : j.k.turn < 9223372036854775808
  r1 : 8 ≤ j.k.ring
  r2 : j.k.ring ≤ 1024
  r3 : j.k.ring + 10 ≤ n
  ps : j.k.pos < j.k.ring
  lv : j.lives ≤ 1073741824
  us : j.used ≤ 1073741824
  fl : j.fresh.length = j.homes n
  fs : ∀ s ∈ j.fresh, s.size = 0 ∨ s.size = 512
/-- A journal's own blocks: itself at g, its map at gp. -/
structure JO (w : World) (g gd gp n : Nat) (e : Int) (j : JM) : Prop where
  blk : w.heap[g]? = some (.cells (jC gd gp e j) 104 (0, 0))
  map : ∃ D : DU, w.ownsMap Tryz.prog 3 secElem gp j.used D ∧ MapOf D (j.homes n) j.fresh
  ok : j.Ok n
  ne : g ≠ gp
section
variable {Z : DK} {w w' : World} {g gd gp n : Nat} {S T : Nat → Prop} {e : Int} {j : JM} {m : RM}
theorem JO.lt (h : JO w g gd gp n e j) : g < w.heap.size := (Array.getElem?_eq_some_iff.1 h.blk).1
theorem JO.ltp (h : JO w g gd gp n e j) : gp < w.heap.size := by
  obtain ⟨D, h1, _⟩ := h.map
  exact h1.lt
theorem JO.only (h : JO w g gd gp n e j) (ho : Only T w w') (h1 : ¬ T g) (h2 : ¬ T gp) : JO w' g gd gp n e j := by
  obtain ⟨D, hm, hD⟩ := h.map
  exact ⟨(ho.block g h.lt h1).trans h.blk, ⟨D, ownsMap_only hm ho h2, hD⟩, h.ok, h.ne⟩
theorem JO.below (h : JO w g gd gp n e j) (hb : Below w.heap.size w w') : JO w' g gd gp n e j := h.only (Only.of_below (S := fun _ => False) hb (Nat.le_refl _)) (fun h => h) (fun h => h)
theorem JO.drew (h : JO w g gd gp n e j) : JO w.drew g gd gp n e j := ⟨h.blk, h.map, h.ok, h.ne⟩
theorem JO.cell (h : JO w g gd gp n e j) (k : Nat) : w.cell? ⟨g, k, none⟩ = (jC gd gp e j)[k]? := cell_of_row w g k _ _ (0, 0) h.blk
theorem JO.fr (h : JO w g gd gp n e j) (k : Nat) : w.frozen? ⟨g, k, none⟩ = false := frozen_of_row w g k _ _ h.blk
theorem JO.po (h : JO w g gd gp n e j) : PoB w g gd e (jC gd gp e j) 104 := ⟨h.blk, rfl, rfl⟩
theorem JO.c0 (h : JO w g gd gp n e j) : w.cell? ⟨g, 0, none⟩ = some (.pointer (some ⟨gd, 0, none⟩)) := h.cell 0
theorem JO.c1 (h : JO w g gd gp n e j) : w.cell? ⟨g, 1, none⟩ = some (.int .i64 e) := h.cell 1
theorem JO.c2 (h : JO w g gd gp n e j) : w.cell? ⟨g, 2, none⟩ = some (.int .u64 (j.k.num : Int)) := h.cell 2
theorem JO.c3 (h : JO w g gd gp n e j) : w.cell? ⟨g, 3, none⟩ = some (.int .u64 (j.k.turn : Int)) := h.cell 3
theorem JO.c4 (h : JO w g gd gp n e j) : w.cell? ⟨g, 4, none⟩ = some (.int .u32 (j.k.pos : Int)) := h.cell 4
theorem JO.c5 (h : JO w g gd gp n e j) : w.cell? ⟨g, 5, none⟩ = some (.int .u32 (j.k.ring : Int)) := h.cell 5
theorem JO.c6 (h : JO w g gd gp n e j) : w.cell? ⟨g, 6, none⟩ = some (.int .i64 (j.lives : Int)) := h.cell 6
theorem JO.c7 (h : JO w g gd gp n e j) : w.cell? ⟨g, 7, none⟩ = some (.int .i64 (j.used : Int)) := h.cell 7
theorem JO.c8 (h : JO w g gd gp n e j) : w.cell? ⟨g, 8, none⟩ = some (.map (some gp)) := h.cell 8
theorem JO.mark (h : JO w g gd gp n e j) : (loadVar 101 ⟨g, 2, none⟩).run Tryz.prog w = .ok (.agg (mkC j.k)) w := by
  refine run_loadVar_part w g 2 _ _ (jC gd gp e j).toList [.int .u64 (j.k.num : Int), .int .u64 (j.k.turn : Int), .int .u32 (j.k.pos : Int), .int .u32 (j.k.ring : Int)] (0, 0) _ h.blk Tryz.underlying101 rfl infoMk (fun i v hv => ?_)
  match i, hv with
  | 0, hv => exact hv
  | 1, hv => exact hv
  | 2, hv => exact hv
  | 3, hv => exact hv
  | i + 4, hv => simp at hv
theorem JM.Ok.fit (h : j.Ok n) : j.k.Fit := ⟨by have := h.nm; omega, by have := h.tn; omega, by have := h.ps; have := h.r2; omega, by have := h.r2; omega⟩
/-- What a port's function leaves of the journal. -/
theorem JO.port {w1 : World} {p : Pt} (h : JO w g gd gp n e j) (hg : ¬ S g) (hp : ¬ S gp) (l : LeftP Z w g gd S n (jC gd gp e j) 104 p w1) : JO w1 g gd gp n p.e j := by
  obtain ⟨S', d', hs, b', ho⟩ := l
  obtain ⟨D, hm, hD⟩ := h.map
  exact ⟨b'.blk, ⟨D, ownsMap_only hm ho (fun hh => hh.elim hp (fun e => h.ne e.symm)), hD⟩, h.ok, h.ne⟩
/-- What is left: the disk and the journal. -/
structure LeftJ (Z : DK) (w : World) (g gd gp n : Nat) (S : Nat → Prop) (p : Pt) (j : JM) (w' : World) : Prop where
  d : ∃ S', Z.D w' gd S' n p.m ∧ ∀ k, S' k → S k ∨ w.heap.size ≤ k
  o : JO w' g gd gp n p.e j
  y : Only (fun k => S k ∨ k = g ∨ k = gp) w w'
theorem LeftJ.same (d : Z.D w gd S n m) (h : JO w g gd gp n e j) : LeftJ Z w g gd gp n S ⟨m, e⟩ j w := ⟨⟨S, d, fun _ hk => .inl hk⟩, h, Only.refl _ _⟩
theorem LeftJ.below (hb : Below w.heap.size w w') (d : Z.D w gd S n m) (h : JO w g gd gp n e j) : LeftJ Z w g gd gp n S ⟨m, e⟩ j w' :=
  ⟨⟨S, Z.only d (Only.of_below (S := fun _ => False) hb (Nat.le_refl _)) (fun _ _ h => h), fun _ hk => .inl hk⟩, h.below hb, Only.of_below hb (Nat.le_refl _)⟩
theorem LeftJ.port {w1 : World} {p : Pt} (h : JO w g gd gp n e j) (hg : ¬ S g) (hp : ¬ S gp) (l : LeftP Z w g gd S n (jC gd gp e j) 104 p w1) : LeftJ Z w g gd gp n S p j w1 := by
  have h1 := h.port hg hp l
  obtain ⟨S', d', hs, b', ho⟩ := l
  exact ⟨⟨S', d', hs⟩, h1, ho.mono (fun k _ hk => hk.imp id .inl)⟩
theorem LeftJ.nog {p : Pt} (l : LeftJ Z w g gd gp n S p j w') (hg : ¬ S g) (hp : ¬ S gp) (h1 : g < w.heap.size) (h2 : gp < w.heap.size) : ∃ S', Z.D w' gd S' n p.m ∧ (∀ k, S' k → S k ∨ w.heap.size ≤ k) ∧ ¬ S' g ∧ ¬ S' gp := by
  obtain ⟨S', d', hs⟩ := l.d
  exact ⟨S', d', hs, fun hh => (hs g hh).elim hg (by omega), fun hh => (hs gp hh).elim hp (by omega)⟩
theorem LeftJ.trans {w1 : World} {p q : Pt} {j1 j2 : JM} {S' : Nat → Prop} (l : LeftJ Z w g gd gp n S p j1 w1) (hs : ∀ k, S' k → S k ∨ w.heap.size ≤ k) (l2 : LeftJ Z w1 g gd gp n S' q j2 w') : LeftJ Z w g gd gp n S q j2 w' := by
  obtain ⟨S2, d2, hs2⟩ := l2.d
  refine ⟨⟨S2, d2, fun k hk => ?_⟩, l2.o, l.y.trans' l2.y (fun k hk hT => ?_)⟩
  · rcases hs2 k hk with h1 | h1
    · exact hs k h1
    · exact .inr (Nat.le_trans l.y.size h1)
  · rcases hT with h1 | h1
    · rcases hs k h1 with h2 | h2
      · exact .inl h2
      · omega
    · exact .inr h1
theorem LeftJ.from {w0 : World} {p : Pt} (hb : Below w.heap.size w w0) (l : LeftJ Z w0 g gd gp n S p j w') : LeftJ Z w g gd gp n S p j w' := by
  obtain ⟨S2, d2, hs2⟩ := l.d
  exact ⟨⟨S2, d2, fun k hk => (hs2 k hk).imp id fun h => Nat.le_trans hb.size h⟩, l.o, (Only.of_below hb (Nat.le_refl _)).trans l.y⟩

set_option maxRecDepth 100000 in
theorem jnone_any (h : JO w g gd gp n e j) : Calls Tryz.prog 61 #[.pointer (some ⟨g, 0, none⟩)] w (RetW w (.bool false)) := by
  have c0 := h.c0
  clear h
  go_enter Tryz.func61, Tryz.ntmps61
  go_wp2_with fail
  go_ret
  exact ⟨rfl, rfl⟩
set_option maxRecDepth 100000 in
theorem jnone_nil (w : World) : Calls Tryz.prog 61 #[.pointer none] w (RetW w (.bool true)) := by
  go_enter Tryz.func61, Tryz.ntmps61
  go_wp2_with fail
  go_ret
  exact ⟨rfl, rfl⟩
set_option maxRecDepth 100000 in
theorem jnone_zero (w : World) (c0 : w.cell? ⟨g, 0, none⟩ = some (.pointer none)) : Calls Tryz.prog 61 #[.pointer (some ⟨g, 0, none⟩)] w (RetW w (.bool true)) := by
  go_enter Tryz.func61, Tryz.ntmps61
  go_wp2_with fail
  go_ret
  exact ⟨rfl, rfl⟩
/-- A call that hands v back and turns nothing but the count of draws. -/
def RetQ (w : World) (v : Value) (e : Ending) (w' : World) : Prop := e = .returned v ∧ ∃ k, w' = w.drewN k
theorem RetQ.below {v : Value} {en : Ending} (h : RetQ w v en w') : RetV2 w v en w' := by
  obtain ⟨h1, k, rfl⟩ := h
  exact ⟨h1, ⟨rfl, rfl, rfl, Nat.le_refl _, fun _ _ => rfl⟩⟩
theorem JO.drewN (h : JO w g gd gp n e j) (k : Nat) : JO (w.drewN k) g gd gp n e j := ⟨h.blk, h.map, h.ok, h.ne⟩
theorem DK.drewN (d : Z.D w gd S n m) (k : Nat) : Z.D (w.drewN k) gd S n m := Z.only d ⟨rfl, rfl, rfl, Nat.le_refl _, fun _ _ _ => rfl⟩ (fun (_ : Nat) (_ : S _) (h : False) => h)
set_option maxRecDepth 100000 in
theorem jcheck_any (h : JO w g gd gp n e j) (d : Z.D w gd S n m) (ok : m.Ok n) : Calls Tryz.prog 65 #[.pointer (some ⟨g, 0, none⟩)] w (RetQ w (.int .i64 (chkE ⟨m, e⟩ j))) := by
  have N := Lib.hid (jnone_any h)
  have L : Hid (∀ k, Calls Tryz.prog 52 #[.pointer (some ⟨gd, 0, none⟩)] (w.drewN k) fun e w' => e = .returned (.int .i64 (m.powers : Int)) ∧ w' = w.drewN k) := Lib.hid (fun k => RetW.still (Z.lives_q (DK.drewN d k) ok))
  have c0 := h.c0
  have c1 := h.c1
  have c6 := h.c6
  obtain ⟨lv, hlv⟩ : ∃ lv, j.lives = lv := ⟨_, rfl⟩
  obtain ⟨mp, hmp⟩ : ∃ mp, m.powers = mp := ⟨_, rfl⟩
  have eE : chkE ⟨m, e⟩ j = if e ≠ 0 ∨ mp ≠ lv then 8 else 0 := by unfold chkE; rw [hlv, hmp]
  rw [eE]
  rw [hlv] at c6
  rw [hmp] at L
  clear eE hlv hmp h d ok
  by_cases he : e = 0
  · have he' : (e != 0) = false := by rw [he]; rfl
    by_cases hl : mp = lv
    · have hl' : ((mp : Int) != (lv : Int)) = false := by rw [hl]; simp
      rw [if_neg (by rintro (h1 | h1); exact h1 he; exact h1 hl)]
      clear he hl
      go_enter Tryz.func65, Tryz.ntmps65
      go_wp2_with (go_at_call 61; refine N.out.mono ?_; rintro e w1 ⟨rfl, rfl⟩)
      go_quiet ((go_at_call 52; refine Calls.quiet_of_same (L.out _)))
      go_wp2_with fail
      go_ret
      exact ⟨rfl, _, rfl⟩
    · have hl' : ((mp : Int) != (lv : Int)) = true := by rw [bne_iff_ne]; omega
      rw [if_pos (.inr hl)]
      clear he hl
      go_enter Tryz.func65, Tryz.ntmps65
      go_wp2_with (go_at_call 61; refine N.out.mono ?_; rintro e w1 ⟨rfl, rfl⟩)
      go_quiet ((go_at_call 52; refine Calls.quiet_of_same (L.out _)))
      go_wp2_with fail
      go_ret
      exact ⟨rfl, _, rfl⟩
  · have he' : (e != 0) = true := by rw [bne_iff_ne]; exact he
    rw [if_pos (.inl he)]
    clear he
    go_enter Tryz.func65, Tryz.ntmps65
    go_wp2_with (go_at_call 61; refine N.out.mono ?_; rintro e w1 ⟨rfl, rfl⟩)
    go_quiet (fail)
    go_wp2_with fail
    go_ret
    exact ⟨rfl, _, rfl⟩
set_option maxRecDepth 100000 in
theorem jfree_any (h : JO w g gd gp n e j) : Calls Tryz.prog 59 #[.pointer (some ⟨g, 0, none⟩)] w (RetQ w (.int .i64 ((j.k.ring : Int) - (j.used : Int)))) := by
  have N := Lib.hid (jnone_any h)
  have c5 := h.c5
  have c7 := h.c7
  have r2 := h.ok.r2
  have us := h.ok.us
  obtain ⟨r, hr⟩ : ∃ r, j.k.ring = r := ⟨_, rfl⟩
  obtain ⟨u, hu⟩ : ∃ u, j.used = u := ⟨_, rfl⟩
  rw [hr] at c5 r2 ⊢
  rw [hu] at c7 us ⊢
  have e1 : IntKind.i64.wrap ((r : Int) - (u : Int)) = (r : Int) - (u : Int) := by rw [IntKind.wrap_i64]; omega
  have e2 : IntKind.i64.wrap (r : Int) = (r : Int) := by rw [IntKind.wrap_i64]; omega
  clear h hr hu
  go_enter Tryz.func59, Tryz.ntmps59
  go_wp2_with (go_at_call 61; refine N.out.mono ?_; rintro e w1 ⟨rfl, rfl⟩)
  go_quiet (fail)
  go_wp2_with fail
  go_ret
  exact ⟨rfl, _, rfl⟩
set_option maxRecDepth 100000 in
theorem jturn_any (h : JO w g gd gp n e j) (ht : 1 ≤ j.k.turn) : Calls Tryz.prog 38 #[.pointer (some ⟨g, 0, none⟩)] w (RetW w (.int .u64 ((j.k.turn - 1 : Nat) : Int))) := by
  have N := Lib.hid (jnone_any h)
  have c3 := h.c3
  have tn := h.ok.tn
  obtain ⟨r, hr⟩ : ∃ r, j.k.turn = r := ⟨_, rfl⟩
  rw [hr] at c3 tn ht ⊢
  have e1 : ((r - 1 : Nat) : Int) = (r : Int) - 1 := by omega
  have e2 : IntKind.u64.wrap ((r : Int) - 1) = (r : Int) - 1 := by rw [IntKind.wrap_u64]; omega
  rw [e1]
  clear h hr e1
  go_enter Tryz.func38, Tryz.ntmps38
  go_wp2_with (go_at_call 61; refine N.out.mono ?_; rintro e w1 ⟨rfl, rfl⟩)
  go_ret
  exact ⟨rfl, rfl⟩
set_option maxRecDepth 100000 in
theorem jhomes_any (h : JO w g gd gp n e j) (d : Z.D w gd S n m) (ok : m.Ok n) : Calls Tryz.prog 64 #[.pointer (some ⟨g, 0, none⟩)] w (RetV2 w (.int .i64 (j.homes n : Nat))) := by
  have N := Lib.hid (jnone_any h)
  have CL : Hid (∀ W, Below w.heap.size w W → Calls Tryz.prog 48 #[.pointer (some ⟨gd, 0, none⟩)] W fun e w' => e = .returned (.int .i64 (n : Int)) ∧ W = w') := Lib.hid (fun W hW => Z.len_q (Z.only d (Only.of_below (S := fun _ => False) hW (Nat.le_refl _)) (fun _ _ h => h)) ok)
  have n1 := ok.n1
  have n2 := ok.n2
  have r3 := h.ok.r3
  have hc : ∀ W, JO W g gd gp n e j → W.cell? ⟨g, 0, none⟩ = some (.pointer (some ⟨gd, 0, none⟩)) ∧ W.cell? ⟨g, 2, none⟩ = some (.int .u64 (j.k.num : Int)) ∧ W.cell? ⟨g, 3, none⟩ = some (.int .u64 (j.k.turn : Int)) ∧ W.cell? ⟨g, 4, none⟩ = some (.int .u32 (j.k.pos : Int)) ∧ W.cell? ⟨g, 5, none⟩ = some (.int .u32 (j.k.ring : Int)) := fun W hW => ⟨hW.c0, hW.c2, hW.c3, hW.c4, hW.c5⟩
  have H := Lib.hid h
  have HC := Lib.hid hc
  have hf := h.ok.fit
  have e1 : j.homes n = n - 2 - j.k.ring := rfl
  have CA : Hid (∀ W, Calls Tryz.prog 68 #[.agg #[.int .u64 (j.k.num : Int), .int .u64 (j.k.turn : Int), .int .u32 (j.k.pos : Int), .int .u32 (j.k.ring : Int)], .int .i64 0] W (RetV2 W (.int .i64 ((2 + j.k.ring : Nat) : Int)))) := Lib.hid (fun W => atHome_any j.k 0 W hf (by omega))
  rw [e1]
  obtain ⟨a, ha⟩ : ∃ a, j.k.num = a := ⟨_, rfl⟩
  obtain ⟨b, hb⟩ : ∃ b, j.k.turn = b := ⟨_, rfl⟩
  obtain ⟨c, hcc⟩ : ∃ c, j.k.pos = c := ⟨_, rfl⟩
  obtain ⟨r, hr⟩ : ∃ r, j.k.ring = r := ⟨_, rfl⟩
  rw [ha, hb, hcc, hr] at CA HC
  rw [hr] at r3 ⊢
  have e3 : ((n - 2 - r : Nat) : Int) = (n : Int) - (2 + (r : Int)) := by omega
  have e4 : ((2 + r : Nat) : Int) = 2 + (r : Int) := by omega
  rw [e3]
  rw [e4] at CA
  have e5 : IntKind.i64.wrap ((n : Int) - (2 + (r : Int))) = (n : Int) - (2 + (r : Int)) := by rw [IntKind.wrap_i64]; omega
  clear h d ok e1 hr e3 e4 ha hb hcc hc hf
  go_enter Tryz.func64, Tryz.ntmps64
  go_wp2_with (go_at_call 61; refine N.out.mono ?_; rintro e w1 ⟨rfl, rfl⟩)
  go_region_held3 (fun W => W.cell? ⟨g, 0, none⟩ = some (.pointer (some ⟨gd, 0, none⟩)) ∧ W.cell? ⟨g, 2, none⟩ = some (.int .u64 (a : Int)) ∧ W.cell? ⟨g, 3, none⟩ = some (.int .u64 (b : Int)) ∧ W.cell? ⟨g, 4, none⟩ = some (.int .u32 (c : Int)) ∧ W.cell? ⟨g, 5, none⟩ = some (.int .u32 (r : Int)))
    (first | exact M7.out | exact HC.out _ H.out.drew | assumption)
    (first
      | (go_at_call 48; first | (refine (CL.out _ B7.out).mono ?_; rintro e w8 ⟨rfl, rfl⟩) | (refine (CL.out _ (Below.refl _ w).drew).mono ?_; rintro e w8 ⟨rfl, rfl⟩))
      | (go_at_call 68; refine (CA.out _).mono ?_; rintro e w7 ⟨rfl, b7⟩
         have B7 : Hid (Below w.heap.size w w7) := Lib.hid ((Below.refl _ w).drew.trans b7)
         have M7 := Lib.hid (HC.out _ (H.out.below B7.out))
         clear b7))
  all_goals
    go_wp2_with fail
    go_ret
    exact ⟨rfl, B7.out⟩
end
end Go.Proofs.YtadagbkfemcgfaaGreat
