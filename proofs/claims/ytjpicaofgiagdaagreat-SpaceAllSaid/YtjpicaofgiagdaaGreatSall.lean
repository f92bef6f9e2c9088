/-
  Own work. The statements of layer 8: SpaceAll.
-/
import Derived.Test.YtjpicaofgiagdaaGreatSm8
import Derived.Test.YtjpicaofgiagdaaGreatPl
namespace Go.Proofs.YtjpicaofgiagdaaGreat
open Go.RowKit Go.Maps
set_option linter.unusedVariables false
set_option linter.unusedSimpArgs false

theorem load_op8 {W : World} {g o : Nat} {op : Op8R} (h : ∀ k v, op.cells[k]? = some v → W.cell? ⟨g, o + k, none⟩ = some v) : (loadVar 38 ⟨g, o, none⟩).run Tryz.prog W = .ok (.agg op.cells.toArray) W :=
  load_M (k := 4) rfl (by kernel_rfl) (fun W => by unfold isAgg; rw [Sem.run_bind, run_underlying Tryz.underlying38 W]; rfl) h
theorem load_p2 {W : World} {g o : Nat} {x y : Int} (h : ∀ k v, (P2 x y)[k]? = some v → W.cell? ⟨g, o + k, none⟩ = some v) : (loadVar 43 ⟨g, o, none⟩).run Tryz.prog W = .ok (.agg (P2 x y).toArray) W :=
  load_M (k := 2) rfl (by kernel_rfl) (fun W => by unfold isAgg; rw [Sem.run_bind, run_underlying Tryz.underlying43 W]; rfl) h
/-- Between two rounds. -/
def L8 (Z : DK) (w : World) (g gd gp n gs go : Nat) (k gt : Nat) (v : Value) (W : World) : Prop :=
  ∃ V q F C E l rs lo ro rows, V ≤ 2000 + 400 * k ∧ q ≤ k ∧ T2 Z w W g gd gp gt n V 16 q F C E ∧ M8 w W gs go l rs lo ro v rows E ∧ Al8 n F l rs ∧ Al8 n C lo ro ∧ rows.length ≤ k ∧ ∀ r ∈ rows, ∃ x y, Bd x ∧ Bd y ∧ r = P2 x y
theorem S8.done {Z : DK} {w W : World} {g gd gp gt n V q gs go gb : Nat} {F C : Nat → List UInt8} {E : Nat → Prop} {l lo : List Bool} {rs ro : List Nat} {v : Value} {rows : List (List Value)} {bo : Obj} {k : Nat}
    (a : S8 Z w W g gd gp gt n V q gs go gb F C E l rs lo ro v rows bo) (hV : V ≤ 2000 + 400 * k) (hq : q ≤ k) (e : Al8 n F l rs) (eo : Al8 n C lo ro) (hk : rows.length ≤ k) (hr : ∀ r ∈ rows, ∃ x y, Bd x ∧ Bd y ∧ r = P2 x y) : L8 Z w g gd gp n gs go k gt v W :=
  ⟨V, q, F, C, E, l, rs, lo, ro, rows, hV, hq, a.t.less (fun k hk => .inl hk), a.m, e, eo, hk, hr⟩
theorem L8.up {Z : DK} {w W : World} {g gd gp n gs go k gt : Nat} {v : Value} (a : L8 Z w g gd gp n gs go k gt v W) : Below w.heap.size w W := by
  obtain ⟨V, q, F, C, E, l, rs, lo, ro, rows, _, _, t, _⟩ := a
  exact t.up
theorem roots_congr {b b' : List UInt8} (h : b = b') : roots b = roots b' := by rw [h]
theorem SpR.store8 {W : World} {base gr c : Nat} {l : List Bool} {rs : List Nat} (o : OwnV 4 W base (.slice (some ⟨gr, 0, none⟩) l.length c) (l.map Value.bool)) (z : Array Value) :
    SpR ((W.alloc (.cells z 33)).setRow W.heap.size (spC gr l.length c rs).toArray) base W.heap.size gr c l rs ∧ Below W.heap.size W ((W.alloc (.cells z 33)).setRow W.heap.size (spC gr l.length c rs).toArray) := by
  have hg := ownV_blk o
  have b := below_setRow ((Below.refl W.heap.size W).alloc (Nat.le_refl _) (.cells z 33)) (Nat.le_refl _) (spC gr l.length c rs).toArray
  exact ⟨⟨setRow_heap _ _ _ _ 33 _ (heap_alloc_new W _), o.below b, by omega⟩, b⟩
theorem M8.init {w w3 w4 w5 w6 w7 : World} {gs gr go gor h c c' : Nat} {l : List Bool} {rs : List Nat} (h0 : w.heap.size ≤ w3.heap.size) (h34 : w3.heap.size ≤ w4.heap.size) (s5 : SpR w5 w3.heap.size gs gr c l rs) (hgs : gs = w4.heap.size) (b45 : Below w4.heap.size w4 w5) (hgr : gr < w4.heap.size)
    (o6 : OwnV 4 w6 w5.heap.size (.slice (some ⟨gor, 0, none⟩) l.length c') (l.map Value.bool)) (b56 : Below w5.heap.size w5 w6) (s7 : SpR w7 w5.heap.size go gor c' l rs) (hgo : go = w6.heap.size) (b67 : Below w6.heap.size w6 w7) (hr : rs.length = 16) (hl : 0 < l.length) :
    M8 w w7 gs go l rs l rs (.slice none 0 0) [] (fun k => k = gs ∨ k = gr ∨ k = go ∨ k = gor) ∧ ∀ k, (k = gs ∨ k = gr ∨ k = go ∨ k = gor) → w3.heap.size ≤ k ∧ k < w7.heap.size := by
  have hg := ownV_blk o6
  have hg4 : w3.heap.size ≤ gr := by
    obtain ⟨g', e, h1, h2, _⟩ := s5.row.at_ hl
    simp only [Option.some.injEq, Addr.mk.injEq, and_true] at e
    omega
  have l5 := (Array.getElem?_eq_some_iff.1 s5.blk).1
  have l7 := (Array.getElem?_eq_some_iff.1 s7.blk).1
  have z1 := b45.size
  have z2 := b56.size
  have z3 := b67.size
  have s6 := s5.only (S := fun _ => False) (Only.of_below b56 (Nat.le_refl _)) (fun h => h) (fun h => h)
  have s57 := s6.only (S := fun _ => False) (Only.of_below b67 (Nat.le_refl _)) (fun h => h) (fun h => h)
  refine ⟨⟨⟨gr, gor, c, c', ⟨s57.blk, OwnV.base_le s57.row h0, s57.ne⟩, ⟨s7.blk, OwnV.base_le s7.row (by omega), s7.ne⟩, OwnM.nil _ _ _ _, ⟨.inl rfl, .inr (.inl rfl), .inr (.inr (.inl rfl)), .inr (.inr (.inr rfl))⟩, (fun k hk => by cases hk), by omega, by omega, by omega, by omega⟩, rfl, hr, hr⟩, fun k hk => ?_⟩
  rcases hk with rfl | rfl | rfl | rfl <;> omega
theorem Al8.init {n : Nat} (h1 : 64 ≤ n) {l : List Bool} (hl : l.length = n - 2 - 16) (hx : ∀ x, x < n - 2 - 16 → l[x]? = some (decide (x < 4))) : Al8 n (F8 (n - 2 - 16)) l zr16 := by
  refine ⟨fun x hx' => ?_, hl, ?_⟩
  · rw [F8_at (by omega), if_pos (by omega), hx x (by omega)]
    exact (congrArg some (B0_tk x)).symm
  · rw [F8_at (by omega), if_pos (by omega)]
    exact roots_zero.symm
theorem S8.rebox {Z : DK} {w W W' : World} {g gd gp gt n V q gs go gb : Nat} {F C : Nat → List UInt8} {E : Nat → Prop} {l lo : List Bool} {rs ro : List Nat} {v : Value} {rows : List (List Value)} {bo bo' : Obj}
    (a : S8 Z w W g gd gp gt n V q gs go gb F C E l rs lo ro v rows bo) (hb : Below W.heap.size W W') (hx : W'.heap[W.heap.size]? = some bo') : S8 Z w W' g gd gp gt n V q gs go W.heap.size F C E l rs lo ro v rows bo' := by
  have hl := (Array.getElem?_eq_some_iff.1 hx).1
  exact ⟨a.t.add (Only.of_below hb (Nat.le_refl _)) (fun k hk => hk.elim (fun h => .inl (.inl h)) (fun h => .inr (by omega))), a.m.only (S := fun _ => False) (Only.of_below hb (Nat.le_refl _)) (fun _ _ h => h), hx, fun h => by have := a.lt _ h; omega⟩
set_option maxRecDepth 100000 in
set_option maxHeartbeats 8000000 in
theorem spaceall_law (Z : DK) (a0 : Int) (A1 : Option Addr) (n1 c1 : Nat) (ops : List Op8R) (w : World) (h0 : -9223372036854775808 ≤ a0 ∧ a0 ≤ 9223372036854775807) (ho : HasOps8 w w.heap.size A1 n1 ops) :
    Calls Tryz.prog 3 #[.int .i64 a0, .slice A1 n1 c1] w (RetTrue w) := by
  have CG := Lib.hid (fun W => begun8_any Z W)
  have HO := Lib.hid ho
  by_cases hl1 : 80 < n1
  · have hl : (80 : Int) < (n1 : Int) := by omega
    clear ho h0
    go_enter Tryz.func3, Tryz.ntmps3
    go_wp2_with (first
      | (go_at_call 14; refine (CG.out _).mono ?_; rintro e w1 ⟨rfl, b1⟩
         have B1 := Lib.hid b1
         clear b1))
    go_ret
    exact ⟨rfl, B1.out⟩
  have hl1' : ¬ (80 : Int) < (n1 : Int) := by omega
  have HN : Hid (n1 ≤ 80) := Lib.hid (by omega)
  have CB := Lib.hid (fun W n hb h1 h2 => begun_tx Z w W hb n 16 h1 h2 (by omega) (by omega))
  have CP0 := Lib.hid (fun W => place_any a0 255 W h0 (by omega) (by omega))
  clear h0 ho
  go_enter Tryz.func3, Tryz.ntmps3
  go_upto_region 9 with (first
    | (go_at_call 14; refine (CG.out _).mono ?_; rintro e w1 ⟨rfl, b1⟩
       have B1 := Lib.hid b1
       clear b1)
    | (go_at_call 15; refine (CP0.out _).mono ?_; rintro e w2 ⟨⟨m, hm, rfl⟩, rfl⟩
       have en : (64 : Int) + (m : Int) = ((64 + m : Nat) : Int) := by omega
       have EN := Lib.hid en
       clear en)
    | (go_at_call 16; rw [EN.out]; refine (CB.out _ (64 + m) B1.out (by omega) (by omega) (by omega)).mono ?_; rintro e w3 ⟨g, gd, gp, gt, rfl, s3⟩
       have S3 := Lib.hid s3
       clear s3))
  obtain ⟨n, hn⟩ : ∃ n, 64 + m = n := ⟨_, rfl⟩
  have e0 : (64 : Int) + (m : Int) = (n : Int) := by omega
  rw [hn] at S3
  rw [e0]
  have hn1 : 64 ≤ n := by omega
  have hn2 : n ≤ 318 := by omega
  clear hn hm EN CB CP0 e0
  obtain ⟨h, hh⟩ : ∃ h, n - 2 - 16 = h := ⟨_, rfl⟩
  have HH := Lib.hid hh
  have e18 : (n : Int) - 18 = (h : Int) := by omega
  have E18 := Lib.hid e18
  have hh1 : 46 ≤ h := by omega
  have hh2 : h ≤ 300 := by omega
  clear hh e18
  have CN := Lib.hid (fun W => rnew_any W h (by omega) (by omega))
  go_upto_region 10 with (first
    | (refine wpList_store_row8 rfl 33 (.tmp 7) (.tmp 40) rfl w4.heap.size (spC gr h h zr16).toArray rfl rfl 33 _ (heap_alloc_new w4 _) (by rw [List.size_toArray, spC_len]; exact infoSpR) (by simp [spC, zr16]) spC_ones ?_)
    | (go_at_call 17; rw [E18.out]; refine (CN.out _).mono ?_; rintro e w4 ⟨gr, l4, rfl, o4, hl4, hx4, b4⟩
       have O4 := Lib.hid o4
       have L4 := Lib.hid hl4
       have X4 := Lib.hid hx4
       have B4 := Lib.hid b4
       clear o4 hl4 hx4 b4))
  generalize hW5 : World.setRow _ _ _ = w5
  have s5b : SpR w5 w3.heap.size w4.heap.size gr h l4 zr16 ∧ Below w4.heap.size w4 w5 := by
    have := SpR.store8 (rs := zr16) (l := l4) (c := h) (by rw [L4.out]; exact O4.out) #[Value.slice none 0 0, Value.int IntKind.u32 0, Value.int IntKind.u32 0, Value.int IntKind.u32 0, Value.int IntKind.u32 0, Value.int IntKind.u32 0, Value.int IntKind.u32 0, Value.int IntKind.u32 0, Value.int IntKind.u32 0, Value.int IntKind.u32 0, Value.int IntKind.u32 0, Value.int IntKind.u32 0, Value.int IntKind.u32 0, Value.int IntKind.u32 0, Value.int IntKind.u32 0, Value.int IntKind.u32 0, Value.int IntKind.u32 0]
    rw [L4.out, hW5] at this
    exact this
  have S5 := Lib.hid s5b.1
  have B5 := Lib.hid s5b.2
  have G4 := Lib.hid (ownV_blk O4.out)
  clear hW5 s5b CN
  obtain ⟨gs, hgs⟩ : ∃ gs, w4.heap.size = gs := ⟨_, rfl⟩
  have GS := Lib.hid hgs
  rw [hgs] at S5
  simp only [hgs]
  clear hgs
  have CC : Hid (Calls Tryz.prog 18 #[.pointer (some ⟨gs, 0, none⟩)] w5 fun e w' => ∃ gr' c', e = .returned (.agg (spC gr' h c' zr16).toArray) ∧ OwnV 4 w' w5.heap.size (.slice (some ⟨gr', 0, none⟩) h c') (l4.map Value.bool) ∧ Below w5.heap.size w5 w') := Lib.hid (by
    have := rcopy_any S5.out rfl (by rw [L4.out]; omega) (by rw [L4.out]; omega)
    rwa [L4.out] at this)
  go_upto_region 11 with (first
    | (refine wpList_store_row8 rfl 33 (.tmp 8) (.tmp 41) rfl w6.heap.size (spC gor h c6 zr16).toArray rfl rfl 33 _ (heap_alloc_new w6 _) (by rw [List.size_toArray, spC_len]; exact infoSpR) (by simp [spC, zr16]) spC_ones ?_)
    | (go_at_call 18; refine CC.out.mono ?_; rintro e w6 ⟨gor, c6, rfl, o6, b6⟩
       have O6 := Lib.hid o6
       have B6 := Lib.hid b6
       clear o6 b6))
  generalize hW7 : World.setRow _ _ _ = w7
  have s7b : SpR w7 w5.heap.size w6.heap.size gor c6 l4 zr16 ∧ Below w6.heap.size w6 w7 := by
    have := SpR.store8 (rs := zr16) (l := l4) (c := c6) (by rw [L4.out]; exact O6.out) #[Value.slice none 0 0, Value.int IntKind.u32 0, Value.int IntKind.u32 0, Value.int IntKind.u32 0, Value.int IntKind.u32 0, Value.int IntKind.u32 0, Value.int IntKind.u32 0, Value.int IntKind.u32 0, Value.int IntKind.u32 0, Value.int IntKind.u32 0, Value.int IntKind.u32 0, Value.int IntKind.u32 0, Value.int IntKind.u32 0, Value.int IntKind.u32 0, Value.int IntKind.u32 0, Value.int IntKind.u32 0, Value.int IntKind.u32 0]
    rw [L4.out, hW7] at this
    exact this
  have S7 := Lib.hid s7b.1
  have B7 := Lib.hid s7b.2
  clear hW7 s7b CC
  obtain ⟨go, hgo⟩ : ∃ go, w6.heap.size = go := ⟨_, rfl⟩
  have GO := Lib.hid hgo
  rw [hgo] at S7
  simp only [hgo]
  clear hgo
  have LL : Hid (L8 Z w g gd gp n gs go 0 gt (.slice none 0 0) w7) := Lib.hid (by
    have x := S3.out.up.size
    obtain ⟨m7, e7⟩ := M8.init (w := w) (w3 := w3) (h := h) x B4.out.size S5.out GS.out.symm B5.out G4.out.2 (by rw [L4.out]; exact O6.out) B6.out S7.out GO.out.symm B7.out rfl (by rw [L4.out]; omega)
    have a8 := Al8.init (n := n) hn1 (by rw [L4.out, HH.out]) (fun x hx => X4.out x (by rw [← HH.out]; exact hx))
    have y37 : Below w3.heap.size w3 w7 := ((B4.out.trans (B5.out.mono B4.out.size)).trans (B6.out.mono (by have := B4.out.size; have := B5.out.size; omega))).trans (B7.out.mono (by have := B4.out.size; have := B5.out.size; have := B6.out.size; omega))
    exact ⟨_, 0, _, _, _, _, _, _, _, _, by omega, Nat.le_refl _, (⟨_, 0, Nat.le_refl _, S3.out.add (Only.of_below y37 (Nat.le_refl _)) (fun k hk => .inr (e7 k hk)), fun _ _ => rfl⟩ : T2 Z w w7 g gd gp gt n (3 * n + 45) 16 0 _ _ _), m7, a8, a8, Nat.le_refl _, fun r hr => absurd hr (by simp)⟩)
  clear S3 O4 L4 X4 B4 S5 B5 G4 O6 B6 S7 B7 GS GO E18 hh1 hh2
  go_wp2_with fail
  go_loopw [6, 9, 10] (fun tt vv x wr => ∃ k gt, k ≤ n1 ∧ x = .int .i64 (k : Int) ∧ tt = .pointer (some ⟨gt, 0, none⟩) ∧ L8 Z w g gd gp n gs go k gt vv wr) (fun _ _ x _ => n1 - (Go.RowKit.intOf x).toNat)
  case atStart => exact ⟨0, gt, by omega, rfl, rfl, LL.out⟩
  case round =>
    clear LL
    obtain ⟨k, gt, hk, rfl, rfl, ql⟩ := hrel
    obtain ⟨W5, rfl⟩ : ∃ W, W = wr := ⟨_, rfl⟩
    have hn80 := HN.out
    by_cases hlt : k < n1
    · obtain ⟨op, hop⟩ : ∃ op, ops[k]? = some op := ⟨_, List.getElem?_eq_getElem (by have := HO.out.1; omega)⟩
      obtain ⟨g0, o0, rfl, hg0, hcells⟩ := HO.out.2.2 (by omega)
      have OK := Lib.hid (HO.out.2.1 op (List.mem_of_getElem? hop))
      have LD := Lib.hid (load_op8 (W := W5) (g := g0) (o := o0 + k * 4) (op := op) (fun j v hj => by rw [show o0 + k * 4 + j = o0 + (4 * k + j) by omega]; exact (ql.up.cell hg0).trans (hcells k op hop j v hj)))
      have QL := Lib.hid ql
      clear hop hcells ql
      obtain ⟨V, q, F, C, E, l, rs, lo, ro, rows, hV, hq, t0, m0, e0, eo0, hrl, hrb⟩ := QL.out
      obtain ⟨A9, c9, rfl⟩ : ∃ A c, u9 = .slice A rows.length c := by
        obtain ⟨⟨_, _, _, _, _, _, o, _⟩, _, _⟩ := m0
        exact o.slice
      obtain ⟨ln, hln⟩ : ∃ ln, rows.length = ln := ⟨_, rfl⟩
      rw [hln] at m0
      rw [hln]
      have E0 := Lib.hid e0
      have EO := Lib.hid eo0
      have RL : Hid (rows.length ≤ k) := Lib.hid hrl
      have hln80 : ln ≤ k := by omega
      have LN := Lib.hid hln
      have RB := Lib.hid hrb
      have S0 : Hid (∀ W6, Below W5.heap.size W5 W6 → ∀ gb bo, gb = W5.heap.size → W6.heap[gb]? = some bo → S8 Z w W6 g gd gp gt n V q gs go gb F C E l rs lo ro (.slice A9 ln c9) rows bo) := Lib.hid (fun W6 hb gb bo hgb hbo => by
        have hlt6 := (Array.getElem?_eq_some_iff.1 hbo).1
        refine ⟨t0.add (Only.of_below hb (Nat.le_refl _)) (fun j hj => hj.elim .inl (fun h => .inr (by omega))), m0.only (S := fun _ => False) (Only.of_below hb (Nat.le_refl _)) (fun _ _ h => h), hbo, fun h => by have := (t0.lt _ h).2; omega⟩)
      clear QL t0 m0 e0 eo0 hrl hrb hln
      go_upto_region 16 with (first
        | (refine wpList_load8 rfl 38 (.tmp 50) rfl ⟨g0, o0 + k * 4, none⟩ rfl _ LD.out ?_)
        | (refine wpList_store_row8 rfl 38 (.tmp 11) (.tmp 51) rfl W5.heap.size op.cells.toArray rfl rfl 38 _ (heap_alloc_new W5 _) (by show _ = some 4; kernel_rfl) (by rfl) (by intro v hv; simp [Op8R.cells] at hv; rcases hv with rfl | rfl | rfl | rfl <;> rfl) ?_))
      generalize hW6 : World.setRow _ _ _ = w6
      have s6 : S8 Z w w6 g gd gp gt n V q gs go W5.heap.size F C E l rs lo ro (.slice A9 ln c9) rows (opO op) := S0.out w6 (by rw [← hW6]; exact below_setRow ((Below.refl _ _).alloc (Nat.le_refl _) _) (Nat.le_refl _) _) _ _ rfl (by rw [← hW6]; exact setRow_heap _ _ _ _ 38 _ (heap_alloc_new W5 _))
      clear hW6 S0 LD
      obtain ⟨gb, hgb⟩ : ∃ gb, W5.heap.size = gb := ⟨_, rfl⟩
      rw [hgb] at s6
      simp only [hgb]
      clear hgb
      have c0 := bx_c0 s6.b
      have c1 := bx_c1 s6.b
      have c2 := bx_c2 s6.b
      have c3 := bx_c3 s6.b
      have S6 := Lib.hid s6
      have hVb : V ≤ 1073000000 := by omega
      have SZF := Lib.hid s6.t.sz
      clear s6
      go_upto_region 20 with (first
        | (go_at_call 15; refine (place_any op.kind 8 _ OK.out.bk (by omega) (by omega)).mono ?_; rintro e w7 ⟨⟨j, hj, rfl⟩, rfl⟩))
      clear c0
      have hj8 : j = 0 ∨ j = 1 ∨ j = 2 ∨ j = 3 ∨ j = 4 ∨ j = 5 ∨ j = 6 ∨ j = 7 := by omega
      clear hj
      rcases hj8 with rfl | rfl | rfl | rfl | rfl | rfl | rfl | rfl
      · as_aux_lemma =>
        have CT := Lib.hid (S6.out.take E0.out hVb (by omega) OK.out.bn)
        go_wp2_with (first
          | (go_at_call 19; refine CT.out.mono ?_; rintro e w8 ⟨x, f, rfl, hx, b8, s8, cr⟩
             have d2 := bx_c2 s8.b
             have CR := Lib.hid cr
             have HX := Lib.hid hx
             clear s8 cr hx)
          | (go_at_call 20; refine CR.out.mono ?_; rintro e w9 ⟨rfl, l9, s9, e9⟩
             have f2 := bx_c2 s9.b
             have S9 := Lib.hid s9
             have E9 := Lib.hid e9
             clear s9 e9)
          | (at_builtin; go_loud (refine wp_appM rfl (.tmp 86) (.tmp 91) 36 43 2 16 rfl Tryz.underlying36 infoP2 (by decide) w.heap.size _ rows (P2 x op.n) rfl (S9.out.own.below ((Below.refl _ _).alloc (Nat.le_refl _) _)) ⟨w9.heap.size, 0, none⟩ 1 rfl rfl (fun j u hj => by rw [Addr.add_lit, Nat.zero_add, cell_of_row _ _ _ _ _ _ (heap_alloc_new w9 _)]; simpa [P2] using hj) (by intro u hu; simp [P2] at hu; rcases hu with rfl | rfl <;> rfl) (by have := LN.out; omega) (by have := S9.out.wle; simp; omega) ?_); intro A10 n10 c10 w10 o10 g10 b10 h10
             have hn10 := o10.len
             rw [List.length_append, LN.out] at hn10
             have S10 := Lib.hid ((S9.out.below ((Below.refl _ _).alloc (Nat.le_refl _) _)).app o10 ((Only.grownO g10).mono (fun _ _ h => .inl h)) (fun j hj => by
               rcases h10 with h | h
               · exact .inl (h ▸ hj)
               · have h1 := (o10.lt j hj).2
                 rw [h] at hj
                 injection hj with hj
                 exact .inr ⟨by omega, h1⟩))
             have N10 : Hid ((rows ++ [P2 x op.n]).length ≤ k + 1) := Lib.hid (by rw [List.length_append]; have := RL.out; simp; omega)
             have R10 : Hid (∀ r ∈ rows ++ [P2 x op.n], ∃ x y, Bd x ∧ Bd y ∧ r = P2 x y) := Lib.hid (fun r hr => by
               rcases List.mem_append.1 hr with hr | hr
               · exact RB.out r hr
               · rw [List.mem_singleton] at hr; exact ⟨x, op.n, HX.out, OK.out.bn, hr⟩)
             clear o10 g10 b10 h10 hn10)
          | (go_at_call 29; refine (S10.out.same E9.out (by omega)).mono ?_; rintro e wz ⟨rfl, sz⟩
             have SZ := Lib.hid sz
             clear sz))
        go_roundw
        case rel => exact ⟨k + 1, gt, by omega, by go_num, rfl, SZ.out.done (by omega) (by omega) E9.out EO.out N10.out R10.out⟩
        case measure => simp [Go.RowKit.intOf]; omega
      · as_aux_lemma =>
        go_upto_region 27 with fail
        refine wp_region_held_drew (S := fun W => W.heap[gb]? = some (opO op)) (by kernel_rfl) S6.out.drew.b (fun hHeld => ?_)
        refine wpAnyH_take (i := 0) (v := ?v0a) (by simp only [List.getElem?_toArray, List.getElem?_cons_succ, List.getElem?_cons_zero]; rfl) (by kernel_rfl) (by kernel_rfl) (by kernel_rfl) (by exact fun _ _ _ h => h) (Or.inl ⟨by rfl, ?h0a⟩) (by assumption) ?_
        case h0a => (intro W hSw; (try dsimp only at hSw); go_simp; try with_reducible rfl)
        try simp only [Act.put, List.setIfInBounds_toArray, List.set_cons_zero, List.set_cons_succ]
        refine wpAnyH_take (i := 1) (v := ?v1a) (by simp only [List.getElem?_toArray, List.getElem?_cons_succ, List.getElem?_cons_zero]; rfl) (by kernel_rfl) (by kernel_rfl) (by kernel_rfl) (by exact fun _ _ _ h => h) (Or.inl ⟨by rfl, ?h1a⟩) (by assumption) ?_
        case h1a => (intro W hSw; (try dsimp only at hSw); go_simp; try with_reducible rfl)
        try simp only [Act.put, List.setIfInBounds_toArray, List.set_cons_zero, List.set_cons_succ]
        refine wpAnyH_take (i := 3) (v := ?v3a) (by simp only [List.getElem?_toArray, List.getElem?_cons_succ, List.getElem?_cons_zero]; rfl) (by kernel_rfl) (by kernel_rfl) (by kernel_rfl) (by exact fun _ _ _ h => h) (Or.inl ⟨by rfl, ?h3a⟩) (by assumption) ?_
        case h3a => (intro W hSw; (try dsimp only at hSw); go_simp; try with_reducible rfl)
        try simp only [Act.put, List.setIfInBounds_toArray, List.set_cons_zero, List.set_cons_succ]
        refine wpAnyH_take (i := 6) (v := ?v6a) (by simp only [List.getElem?_toArray, List.getElem?_cons_succ, List.getElem?_cons_zero]; rfl) (by kernel_rfl) (by kernel_rfl) (by kernel_rfl) (by exact fun _ _ _ h => h) (Or.inl ⟨by rfl, ?h6a⟩) (by assumption) ?_
        case h6a => (intro W hSw; (try dsimp only at hSw); go_simp; try with_reducible rfl)
        try simp only [Act.put, List.setIfInBounds_toArray, List.set_cons_zero, List.set_cons_succ]
        refine wpAnyH_take (i := 8) (v := ?v8a) (by simp only [List.getElem?_toArray, List.getElem?_cons_succ, List.getElem?_cons_zero]; rfl) (by kernel_rfl) (by kernel_rfl) (by kernel_rfl) (by exact fun _ _ _ h => h) (Or.inl ⟨by rfl, ?h8a⟩) (by assumption) ?_
        case h8a => (intro W hSw; (try dsimp only at hSw); go_simp; try with_reducible rfl)
        try simp only [Act.put, List.setIfInBounds_toArray, List.set_cons_zero, List.set_cons_succ]
        refine wpAnyH_take (i := 2) (by simp only [List.getElem?_toArray, List.getElem?_cons_succ, List.getElem?_cons_zero]; rfl) (by kernel_rfl) (by kernel_rfl) (by kernel_rfl) (by exact fun _ _ _ h => h) (yieldsIf_loadG (by rfl) 3 (.tmp 96) rfl ⟨gb, 1, none⟩ rfl (.int .i64 op.at_) (fun W hW => load_i8 (bx_c1 hW))) (by assumption) ?_
        try simp only [Act.put, List.setIfInBounds_toArray, List.set_cons_zero, List.set_cons_succ]
        refine wpAnyH_take (i := 4) (by simp only [List.getElem?_toArray, List.getElem?_cons_succ, List.getElem?_cons_zero]; rfl) (by kernel_rfl) (by kernel_rfl) (by kernel_rfl) (by exact fun _ _ _ h => h) (yieldsIf_loadG (by rfl) 3 (.tmp 98) rfl ⟨gb, 2, none⟩ rfl (.int .i64 op.n) (fun W hW => load_i8 (bx_c2 hW))) (by assumption) ?_
        try simp only [Act.put, List.setIfInBounds_toArray, List.set_cons_zero, List.set_cons_succ]
        refine wpAnyH_take (i := 7) (by simp only [List.getElem?_toArray, List.getElem?_cons_succ, List.getElem?_cons_zero]; rfl) (by kernel_rfl) (by kernel_rfl) (by kernel_rfl) (by exact fun _ _ _ h => h) (yieldsIf_loadG (by rfl) 3 (.tmp 101) rfl ⟨gb, 1, none⟩ rfl (.int .i64 op.at_) (fun W hW => load_i8 (bx_c1 hW))) (by assumption) ?_
        try simp only [Act.put, List.setIfInBounds_toArray, List.set_cons_zero, List.set_cons_succ]
        refine wpAnyH_take (i := 9) (by simp only [List.getElem?_toArray, List.getElem?_cons_succ, List.getElem?_cons_zero]; rfl) (by kernel_rfl) (by kernel_rfl) (by kernel_rfl) (by exact fun _ _ _ h => h) (yieldsIf_loadG (by rfl) 3 (.tmp 103) rfl ⟨gb, 2, none⟩ rfl (.int .i64 op.n) (fun W hW => load_i8 (bx_c2 hW))) (by assumption) ?_
        try simp only [Act.put, List.setIfInBounds_toArray, List.set_cons_zero, List.set_cons_succ]
        refine wpAnyH_ready (rs := [5]) (by kernel_rfl) (by simp) ?_
        refine AllReadyH.cons (by simp only [List.getElem?_toArray, List.getElem?_cons_succ, List.getElem?_cons_zero]; rfl) (fun K hK => ?_) AllReadyH.nil
        go_simp
        refine (S6.out.drew.free E0.out (by omega) (by omega) OK.out.ba OK.out.bn).mono ?_
        rintro e w8 ⟨f, rfl, b8, s8, c8⟩
        have S8a := Lib.hid s8
        have hS5 := s8.b
        have C8 := Lib.hid (c8 _ s8)
        clear s8 c8
        refine hK _ _ hS5 (fun hH5 => ?_)
        clear hK K
        try simp only [Act.put, List.setIfInBounds_toArray, List.set_cons_zero, List.set_cons_succ]
        refine wpAnyH_ready (rs := [10]) (by kernel_rfl) (by simp) ?_
        refine AllReadyH.cons (by simp only [List.getElem?_toArray, List.getElem?_cons_succ, List.getElem?_cons_zero]; rfl) (fun K hK => ?_) AllReadyH.nil
        go_simp
        refine C8.out.mono ?_
        rintro e w9 ⟨rfl, l9, s9, e9⟩
        have S9 := Lib.hid s9
        have E9 := Lib.hid e9
        have hS10 := s9.b
        clear s9 e9
        refine hK _ _ hS10 (fun hH10 => ?_)
        clear hK K
        try simp only [Act.put, List.setIfInBounds_toArray, List.set_cons_zero, List.set_cons_succ]
        refine wpAnyH_take (i := 11) (v := ?v11a) (by simp only [List.getElem?_toArray, List.getElem?_cons_succ, List.getElem?_cons_zero]; rfl) (by kernel_rfl) (by kernel_rfl) (by kernel_rfl) (by exact fun _ _ _ h => h) (Or.inl ⟨by rfl, ?h11a⟩) (by assumption) ?_
        case h11a => (intro W hSw; (try dsimp only at hSw); go_simp; try with_reducible rfl)
        try simp only [Act.put, List.setIfInBounds_toArray, List.set_cons_zero, List.set_cons_succ]
        refine wpAnyH_done (by kernel_rfl) ?_ _
        go_wp2_with (first
          | (go_at_call 29; refine (S9.out.same E9.out (by omega)).mono ?_; rintro e wz ⟨rfl, sz⟩
             have SZ := Lib.hid sz
             clear sz))
        go_roundw
        case rel => exact ⟨k + 1, gt, by omega, by go_num, rfl, SZ.out.done (by omega) (by omega) E9.out EO.out (by have := RL.out; omega) RB.out⟩
        case measure => simp [Go.RowKit.intOf]; omega
      · as_aux_lemma =>
        by_cases hl0 : 0 < ln
        · have hlI : (0 : Int) < (ln : Int) := by omega
          obtain ⟨ga, rfl, hga1, hga2, hcl⟩ := S6.out.own.at_ hl0
          have HCL := Lib.hid hcl
          have CPL := Lib.hid (fun W => place_any op.at_ ln W OK.out.ba (by omega) (by omega))
          clear hcl
          go_upto_region 31 with fail
          go_upto_region 32 with (first
            | (go_at_call 15; refine (CPL.out _).mono ?_; rintro e w8 ⟨⟨y, hy, rfl⟩, rfl⟩
               obtain ⟨row, hrow⟩ : ∃ r, rows[y]? = some r := ⟨_, List.getElem?_eq_getElem (by have := LN.out; omega)⟩
               obtain ⟨px, py, bpx, bpy, hpr⟩ := RB.out row (List.mem_of_getElem? hrow)
               subst hpr
               have LDP := Lib.hid (load_p2 (W := w6) (g := ga) (o := y * 2) (x := px) (y := py) (fun i u hi => HCL.out y _ hrow i u hi))
               have BPX := Lib.hid bpx
               have BPY := Lib.hid bpy
               clear hrow bpx bpy)
            | (refine wpList_load8 rfl 43 (.tmp 118) rfl ⟨ga, y * 2, none⟩ (by first | rfl | simp) _ LDP.out ?_)
            | (refine wpList_store_row8 rfl 43 (.tmp 16) (.tmp 119) rfl w6.heap.size (P2 px py).toArray rfl rfl 43 _ (heap_alloc_new w6 _) (by show _ = some 2; kernel_rfl) (by rfl) (by intro v hv; simp [P2] at hv; rcases hv with rfl | rfl <;> rfl) ?_))
          generalize hW7 : World.setRow _ _ _ = w7
          have s7 : S8 Z w w7 g gd gp gt n V q gs go w6.heap.size F C E l rs lo ro (.slice (some ⟨ga, 0, none⟩) ln c9) rows (.cells (P2 px py).toArray 43 (0, 0)) := S6.out.rebox (by rw [← hW7]; exact below_setRow ((Below.refl _ _).alloc (Nat.le_refl _) _) (Nat.le_refl _) _) (by rw [← hW7]; exact setRow_heap _ _ _ _ 43 _ (heap_alloc_new w6 _))
          clear hW7 LDP HCL CPL
          obtain ⟨gx, hgx⟩ : ∃ gx, w6.heap.size = gx := ⟨_, rfl⟩
          rw [hgx] at s7
          simp only [hgx]
          clear hgx
          have S7 := Lib.hid s7
          clear s7
          refine wp_region_held_drew (S := fun W => W.heap[gx]? = some (.cells (P2 px py).toArray 43 (0, 0))) (by kernel_rfl) S7.out.drew.b (fun hHeld => ?_)
          refine wpAnyH_take (i := 0) (v := ?v0b) (by simp only [List.getElem?_toArray, List.getElem?_cons_succ, List.getElem?_cons_zero]; rfl) (by kernel_rfl) (by kernel_rfl) (by kernel_rfl) (by exact fun _ _ _ h => h) (Or.inl ⟨by rfl, ?h0b⟩) (by assumption) ?_
          case h0b => (intro W hSw; (try dsimp only at hSw); go_simp; try with_reducible rfl)
          try simp only [Act.put, List.setIfInBounds_toArray, List.set_cons_zero, List.set_cons_succ]
          refine wpAnyH_take (i := 1) (v := ?v1b) (by simp only [List.getElem?_toArray, List.getElem?_cons_succ, List.getElem?_cons_zero]; rfl) (by kernel_rfl) (by kernel_rfl) (by kernel_rfl) (by exact fun _ _ _ h => h) (Or.inl ⟨by rfl, ?h1b⟩) (by assumption) ?_
          case h1b => (intro W hSw; (try dsimp only at hSw); go_simp; try with_reducible rfl)
          try simp only [Act.put, List.setIfInBounds_toArray, List.set_cons_zero, List.set_cons_succ]
          refine wpAnyH_take (i := 3) (v := ?v3b) (by simp only [List.getElem?_toArray, List.getElem?_cons_succ, List.getElem?_cons_zero]; rfl) (by kernel_rfl) (by kernel_rfl) (by kernel_rfl) (by exact fun _ _ _ h => h) (Or.inl ⟨by rfl, ?h3b⟩) (by assumption) ?_
          case h3b => (intro W hSw; (try dsimp only at hSw); go_simp; try with_reducible rfl)
          try simp only [Act.put, List.setIfInBounds_toArray, List.set_cons_zero, List.set_cons_succ]
          refine wpAnyH_take (i := 6) (v := ?v6b) (by simp only [List.getElem?_toArray, List.getElem?_cons_succ, List.getElem?_cons_zero]; rfl) (by kernel_rfl) (by kernel_rfl) (by kernel_rfl) (by exact fun _ _ _ h => h) (Or.inl ⟨by rfl, ?h6b⟩) (by assumption) ?_
          case h6b => (intro W hSw; (try dsimp only at hSw); go_simp; try with_reducible rfl)
          try simp only [Act.put, List.setIfInBounds_toArray, List.set_cons_zero, List.set_cons_succ]
          refine wpAnyH_take (i := 8) (v := ?v8b) (by simp only [List.getElem?_toArray, List.getElem?_cons_succ, List.getElem?_cons_zero]; rfl) (by kernel_rfl) (by kernel_rfl) (by kernel_rfl) (by exact fun _ _ _ h => h) (Or.inl ⟨by rfl, ?h8b⟩) (by assumption) ?_
          case h8b => (intro W hSw; (try dsimp only at hSw); go_simp; try with_reducible rfl)
          try simp only [Act.put, List.setIfInBounds_toArray, List.set_cons_zero, List.set_cons_succ]
          refine wpAnyH_take (i := 2) (by simp only [List.getElem?_toArray, List.getElem?_cons_succ, List.getElem?_cons_zero]; rfl) (by kernel_rfl) (by kernel_rfl) (by kernel_rfl) (by exact fun _ _ _ h => h) (yieldsIf_loadG (by rfl) 3 (.tmp 121) rfl ⟨gx, 0, none⟩ rfl (.int .i64 px) (fun W hW => load_i8 (px_c0 hW))) (by assumption) ?_
          try simp only [Act.put, List.setIfInBounds_toArray, List.set_cons_zero, List.set_cons_succ]
          refine wpAnyH_take (i := 4) (by simp only [List.getElem?_toArray, List.getElem?_cons_succ, List.getElem?_cons_zero]; rfl) (by kernel_rfl) (by kernel_rfl) (by kernel_rfl) (by exact fun _ _ _ h => h) (yieldsIf_loadG (by rfl) 3 (.tmp 123) rfl ⟨gx, 1, none⟩ rfl (.int .i64 py) (fun W hW => load_i8 (px_c1 hW))) (by assumption) ?_
          try simp only [Act.put, List.setIfInBounds_toArray, List.set_cons_zero, List.set_cons_succ]
          refine wpAnyH_take (i := 7) (by simp only [List.getElem?_toArray, List.getElem?_cons_succ, List.getElem?_cons_zero]; rfl) (by kernel_rfl) (by kernel_rfl) (by kernel_rfl) (by exact fun _ _ _ h => h) (yieldsIf_loadG (by rfl) 3 (.tmp 126) rfl ⟨gx, 0, none⟩ rfl (.int .i64 px) (fun W hW => load_i8 (px_c0 hW))) (by assumption) ?_
          try simp only [Act.put, List.setIfInBounds_toArray, List.set_cons_zero, List.set_cons_succ]
          refine wpAnyH_take (i := 9) (by simp only [List.getElem?_toArray, List.getElem?_cons_succ, List.getElem?_cons_zero]; rfl) (by kernel_rfl) (by kernel_rfl) (by kernel_rfl) (by exact fun _ _ _ h => h) (yieldsIf_loadG (by rfl) 3 (.tmp 128) rfl ⟨gx, 1, none⟩ rfl (.int .i64 py) (fun W hW => load_i8 (px_c1 hW))) (by assumption) ?_
          try simp only [Act.put, List.setIfInBounds_toArray, List.set_cons_zero, List.set_cons_succ]
          refine wpAnyH_ready (rs := [5]) (by kernel_rfl) (by simp) ?_
          refine AllReadyH.cons (by simp only [List.getElem?_toArray, List.getElem?_cons_succ, List.getElem?_cons_zero]; rfl) (fun K hK => ?_) AllReadyH.nil
          go_simp
          refine (S7.out.drew.free E0.out (by omega) (by omega) BPX.out BPY.out).mono ?_
          rintro e w8 ⟨f, rfl, b8, s8, c8⟩
          have S8a := Lib.hid s8
          have hS5 := s8.b
          have C8 := Lib.hid (c8 _ s8)
          clear s8 c8
          refine hK _ _ hS5 (fun hH5 => ?_)
          clear hK K
          try simp only [Act.put, List.setIfInBounds_toArray, List.set_cons_zero, List.set_cons_succ]
          refine wpAnyH_ready (rs := [10]) (by kernel_rfl) (by simp) ?_
          refine AllReadyH.cons (by simp only [List.getElem?_toArray, List.getElem?_cons_succ, List.getElem?_cons_zero]; rfl) (fun K hK => ?_) AllReadyH.nil
          go_simp
          refine C8.out.mono ?_
          rintro e w9 ⟨rfl, l9, s9, e9⟩
          have S9 := Lib.hid s9
          have E9 := Lib.hid e9
          have hS10 := s9.b
          clear s9 e9
          refine hK _ _ hS10 (fun hH10 => ?_)
          clear hK K
          try simp only [Act.put, List.setIfInBounds_toArray, List.set_cons_zero, List.set_cons_succ]
          refine wpAnyH_take (i := 11) (v := ?v11b) (by simp only [List.getElem?_toArray, List.getElem?_cons_succ, List.getElem?_cons_zero]; rfl) (by kernel_rfl) (by kernel_rfl) (by kernel_rfl) (by exact fun _ _ _ h => h) (Or.inl ⟨by rfl, ?h11b⟩) (by assumption) ?_
          case h11b => (intro W hSw; (try dsimp only at hSw); go_simp; try with_reducible rfl)
          try simp only [Act.put, List.setIfInBounds_toArray, List.set_cons_zero, List.set_cons_succ]
          refine wpAnyH_done (by kernel_rfl) ?_ _
          go_wp2_with (first
            | (go_at_call 29; refine (S9.out.same E9.out (by omega)).mono ?_; rintro e wz ⟨rfl, sz⟩
               have SZ := Lib.hid sz
               clear sz))
          go_roundw
          case rel => exact ⟨k + 1, gt, by omega, by go_num, rfl, SZ.out.done (by omega) (by omega) E9.out EO.out (by have := RL.out; omega) RB.out⟩
          case measure => simp [Go.RowKit.intOf]; omega
        · have hlI : ¬ (0 : Int) < (ln : Int) := by omega
          have hlN : ln = 0 := by omega
          subst hlN
          go_wp2_with (first
            | (go_at_call 29; refine (S6.out.same E0.out (by omega)).mono ?_; rintro e wz ⟨rfl, sz⟩
               have SZ := Lib.hid sz
               clear sz))
          go_roundw
          case rel => exact ⟨k + 1, gt, by omega, by go_num, rfl, SZ.out.done (by omega) (by omega) E0.out EO.out (by have := RL.out; omega) RB.out⟩
          case measure => simp [Go.RowKit.intOf]; omega
      · as_aux_lemma =>
        by_cases hin : 0 ≤ op.at_ ∧ op.at_ < (h : Int)
        · obtain ⟨i, hi⟩ := Int.eq_ofNat_of_zero_le hin.1
          have hin2 := hin.2
          rw [hi] at c1 hin2
          have hih : i < h := by omega
          obtain ⟨t, ht⟩ : ∃ t, tkB (F 1) i = t := ⟨_, rfl⟩
          have CT := Lib.hid (S6.out.taken hVb (i : Int) (by have := OK.out.ba; rw [hi] at this; exact this) t 0 (.inl ⟨by omega, by rw [HH.out]; exact hin2, by rw [Int.toNat_natCast]; exact ht.symm, rfl⟩))
          have LI : Hid (l[i]? = some t) := Lib.hid (by rw [← ht]; exact E0.out.us i (by rw [E0.out.len, HH.out]; exact hih))
          have HI := Lib.hid hi
          clear hin hi ht
          go_wp2_with (first
            | (go_at_call 23; refine CT.out.mono ?_; rintro e w8 ⟨rfl, s8⟩
               have d1 := bx_c1 s8.b
               rw [HI.out] at d1
               obtain ⟨grr, cc, k0, kx⟩ := s8.m.taken
               rw [E0.out.len, HH.out] at k0
               have kt := kx i t LI.out
               clear kx
               have S8a := Lib.hid s8
               clear s8)
            | (go_at_call 29; refine (S8a.out.same E0.out (by omega)).mono ?_; rintro e wz ⟨rfl, sz⟩
               have SZ := Lib.hid sz
               clear sz))
          go_roundw
          case rel => exact ⟨k + 1, gt, by omega, by go_num, rfl, SZ.out.done (by omega) (by omega) E0.out EO.out (by have := RL.out; omega) RB.out⟩
          case measure => simp [Go.RowKit.intOf]; omega
        · have CT := Lib.hid (S6.out.taken hVb op.at_ OK.out.ba false 1 (.inr ⟨by rw [HH.out]; exact hin, rfl, rfl⟩))
          by_cases hlo : op.at_ < 0
          · have hlo2 : ¬ (0 : Int) ≤ op.at_ := by omega
            clear hin
            go_wp2_with (first
              | (go_at_call 23; refine CT.out.mono ?_; rintro e w8 ⟨rfl, s8⟩
                 have d1 := bx_c1 s8.b
                 have S8a := Lib.hid s8
                 clear s8)
              | (go_at_call 29; refine (S8a.out.same E0.out (by omega)).mono ?_; rintro e wz ⟨rfl, sz⟩
                 have SZ := Lib.hid sz
                 clear sz))
            go_roundw
            case rel => exact ⟨k + 1, gt, by omega, by go_num, rfl, SZ.out.done (by omega) (by omega) E0.out EO.out (by have := RL.out; omega) RB.out⟩
            case measure => simp [Go.RowKit.intOf]; omega
          · have hlo2 : (0 : Int) ≤ op.at_ := by omega
            have hhi : ¬ op.at_ < (h : Int) := by omega
            clear hin
            go_wp2_with (first
              | (go_at_call 23; refine CT.out.mono ?_; rintro e w8 ⟨rfl, s8⟩
                 have d1 := bx_c1 s8.b
                 obtain ⟨grr, cc, k0, kx⟩ := s8.m.taken
                 rw [E0.out.len, HH.out] at k0
                 clear kx
                 have S8a := Lib.hid s8
                 clear s8)
              | (go_at_call 29; refine (S8a.out.same E0.out (by omega)).mono ?_; rintro e wz ⟨rfl, sz⟩
                 have SZ := Lib.hid sz
                 clear sz))
            go_roundw
            case rel => exact ⟨k + 1, gt, by omega, by go_num, rfl, SZ.out.done (by omega) (by omega) E0.out EO.out (by have := RL.out; omega) RB.out⟩
            case measure => simp [Go.RowKit.intOf]; omega
      · as_aux_lemma =>
        obtain ⟨u, hu⟩ := Int.eq_ofNat_of_zero_le OK.out.bv.1
        have hu2 : u < 4294967296 := by have := OK.out.bv.2; omega
        rw [hu] at c3
        have HU := Lib.hid hu
        clear hu
        by_cases hin : 0 ≤ op.at_ ∧ op.at_ < 16
        · obtain ⟨i, hi⟩ := Int.eq_ofNat_of_zero_le hin.1
          have hin2 := hin.2
          rw [hi] at c1 hin2
          have hi16 : i < 16 := by omega
          have CT := Lib.hid (S6.out.setroot hVb (by omega) i u hi16 hu2)
          have E9 := Lib.hid (E0.out.setroot (SZF.out.2.2 0 (by have := SZF.out.1; omega)) hi16 hu2)
          have HI := Lib.hid hi
          clear hin hi
          go_upto_region 43 with (first
            | (go_at_call 24; refine CT.out.mono ?_; rintro e w8 ⟨rfl, s8⟩
               have d1 := bx_c1 s8.b
               rw [HI.out] at d1
               have d3 := bx_c3 s8.b
               rw [HU.out] at d3
               obtain ⟨xo, ko⟩ := (s8.m.setroot i u hi16).1
               have kf := (s8.m.setroot i u hi16).2.1
               have S8a := Lib.hid s8
               clear s8))
          generalize hW9 : World.setCell _ _ _ = w9
          have s9 : S8 Z w w9 g gd gp gt n V (q + 1) gs go gb (upd F 0 (rootL (F 0) i u)) C E l (rs.set i u) lo ro (.slice A9 ln c9) rows (opO op) := by rw [← hW9]; exact S8a.out.rset i u hi16
          have f1 := bx_c1 s9.b
          rw [HI.out] at f1
          have S9 := Lib.hid s9
          clear s9 hW9
          go_wp2_with (first
            | (go_at_call 29; refine (S9.out.same E9.out (by omega)).mono ?_; rintro e wz ⟨rfl, sz⟩
               have SZ := Lib.hid sz
               clear sz))
          go_roundw
          case rel => exact ⟨k + 1, gt, by omega, by go_num, rfl, SZ.out.done (by omega) (by omega) E9.out EO.out (by have := RL.out; omega) RB.out⟩
          case measure => simp [Go.RowKit.intOf]; omega
        · have CT := Lib.hid (S6.out.setrootN hVb op.at_ (u : Int) OK.out.ba hin)
          by_cases hlo : op.at_ < 0
          · have hlo2 : ¬ (0 : Int) ≤ op.at_ := by omega
            clear hin
            go_wp2_with (first
              | (go_at_call 24; refine CT.out.mono ?_; rintro e w8 ⟨rfl, s8⟩
                 have d1 := bx_c1 s8.b
                 have S8a := Lib.hid s8
                 clear s8)
              | (go_at_call 29; refine (S8a.out.same E0.out (by omega)).mono ?_; rintro e wz ⟨rfl, sz⟩
                 have SZ := Lib.hid sz
                 clear sz))
            go_roundw
            case rel => exact ⟨k + 1, gt, by omega, by go_num, rfl, SZ.out.done (by omega) (by omega) E0.out EO.out (by have := RL.out; omega) RB.out⟩
            case measure => simp [Go.RowKit.intOf]; omega
          · have hlo2 : (0 : Int) ≤ op.at_ := by omega
            have hhi : ¬ op.at_ < 16 := by omega
            clear hin
            go_wp2_with (first
              | (go_at_call 24; refine CT.out.mono ?_; rintro e w8 ⟨rfl, s8⟩
                 have d1 := bx_c1 s8.b
                 have S8a := Lib.hid s8
                 clear s8)
              | (go_at_call 29; refine (S8a.out.same E0.out (by omega)).mono ?_; rintro e wz ⟨rfl, sz⟩
                 have SZ := Lib.hid sz
                 clear sz))
            go_roundw
            case rel => exact ⟨k + 1, gt, by omega, by go_num, rfl, SZ.out.done (by omega) (by omega) E0.out EO.out (by have := RL.out; omega) RB.out⟩
            case measure => simp [Go.RowKit.intOf]; omega
      · as_aux_lemma =>
        by_cases hin : 0 ≤ op.at_ ∧ op.at_ < 16
        · obtain ⟨i, hi⟩ := Int.eq_ofNat_of_zero_le hin.1
          have hin2 := hin.2
          rw [hi] at c1 hin2
          have hi16 : i < 16 := by omega
          have hi0 : ¬ (i : Int) < 0 := by omega
          have hi1 : ¬ (16 : Int) ≤ (i : Int) := by omega
          have ct := S6.out.root hVb (i : Int) (by have := OK.out.ba; rw [hi] at this; exact this) ((rootV (F 0) i : Nat) : Int) 0 (.inl ⟨i, hi16, rfl, rfl, rfl⟩)
          obtain ⟨u, hu⟩ : ∃ u, ((rootV (F 0) i : Nat) : Int) = u := ⟨_, rfl⟩
          rw [hu] at ct
          have CT := Lib.hid ct
          have HI := Lib.hid hi
          clear hin hi ct hu
          go_wp2_with (first
            | (go_at_call 25; refine CT.out.mono ?_; rintro e w8 ⟨rfl, s8⟩
               have d1 := bx_c1 s8.b
               rw [HI.out] at d1
               have S8a := Lib.hid s8
               clear s8)
            | (go_at_call 29; refine (S8a.out.same E0.out (by omega)).mono ?_; rintro e wz ⟨rfl, sz⟩
               have SZ := Lib.hid sz
               clear sz))
          go_roundw
          case rel => exact ⟨k + 1, gt, by omega, by go_num, rfl, SZ.out.done (by omega) (by omega) E0.out EO.out (by have := RL.out; omega) RB.out⟩
          case measure => simp [Go.RowKit.intOf]; omega
        · have CT := Lib.hid (S6.out.root hVb op.at_ OK.out.ba 0 1 (.inr ⟨hin, rfl, rfl⟩))
          by_cases hlo : op.at_ < 0
          · clear hin
            go_wp2_with (first
              | (go_at_call 25; refine CT.out.mono ?_; rintro e w8 ⟨rfl, s8⟩
                 have d1 := bx_c1 s8.b
                 have S8a := Lib.hid s8
                 clear s8)
              | (go_at_call 29; refine (S8a.out.same E0.out (by omega)).mono ?_; rintro e wz ⟨rfl, sz⟩
                 have SZ := Lib.hid sz
                 clear sz))
            go_roundw
            case rel => exact ⟨k + 1, gt, by omega, by go_num, rfl, SZ.out.done (by omega) (by omega) E0.out EO.out (by have := RL.out; omega) RB.out⟩
            case measure => simp [Go.RowKit.intOf]; omega
          · have hhi : (16 : Int) ≤ op.at_ := by omega
            clear hin
            go_wp2_with (first
              | (go_at_call 25; refine CT.out.mono ?_; rintro e w8 ⟨rfl, s8⟩
                 have d1 := bx_c1 s8.b
                 have S8a := Lib.hid s8
                 clear s8)
              | (go_at_call 29; refine (S8a.out.same E0.out (by omega)).mono ?_; rintro e wz ⟨rfl, sz⟩
                 have SZ := Lib.hid sz
                 clear sz))
            go_roundw
            case rel => exact ⟨k + 1, gt, by omega, by go_num, rfl, SZ.out.done (by omega) (by omega) E0.out EO.out (by have := RL.out; omega) RB.out⟩
            case measure => simp [Go.RowKit.intOf]; omega
      · as_aux_lemma =>
        have CT := Lib.hid (S6.out.commit (by omega) (by omega))
        go_wp2_with (first
          | (go_at_call 26; refine CT.out.mono ?_; rintro e w7 ⟨rfl, j7⟩
             have J7 := Lib.hid j7
             clear j7)
          | (go_at_call 27; refine (J7.out.begin_ (by omega)).mono ?_; rintro e w8 ⟨gt8, rfl, s8⟩
             have CP := Lib.hid (s8.m.copy (by rw [E0.out.len]; have := SZF.out.1; omega) (by rw [E0.out.len]; exact SZF.out.2.1))
             have S8a := Lib.hid s8
             clear s8)
          | (go_at_call 18; refine CP.out.mono ?_; rintro e w9 ⟨gr9, c9', rfl, o9, b9⟩
             obtain ⟨cur, hcur, hcs⟩ := S8a.out.m.rowO
             have HCU := Lib.hid ((b9.block go (Array.getElem?_eq_some_iff.1 hcur).1).trans hcur)
             have HCS := Lib.hid hcs
             have RLN := Lib.hid S8a.out.m.rl.1
             have S9 := Lib.hid (S8a.out.setOld o9 b9)
             clear o9 b9 hcur hcs)
          | (refine wpList_store_row8 rfl 33 (.tmp 8) (.tmp 243) rfl go (spC gr9 l.length c9' rs).toArray rfl rfl 33 cur HCU.out (by rw [rs_size RLN.out]; exact infoSpR) (by rw [rs_size RLN.out]; exact HCS.out) spC_ones ?_)
          | (go_at_call 29; refine (S9.out.same E0.out (by omega)).mono ?_; rintro e wz ⟨rfl, sz⟩
             have SZ := Lib.hid sz
             clear sz))
        go_roundw
        case rel => exact ⟨k + 1, gt8, by omega, by go_num, rfl, SZ.out.done (by omega) (by omega) E0.out E0.out (by have := RL.out; omega) RB.out⟩
        case measure => simp [Go.RowKit.intOf]; omega
      · as_aux_lemma =>
        have CT := Lib.hid S6.out.abort
        have LLO : Hid (l.length = lo.length) := Lib.hid (by rw [E0.out.len, EO.out.len])
        go_wp2_with (first
          | (go_at_call 28; refine CT.out.mono ?_; rintro e w7 ⟨rfl, j7⟩
             have J7 := Lib.hid j7
             clear j7)
          | (go_at_call 27; refine (J7.out.begin_ (by omega)).mono ?_; rintro e w8 ⟨gt8, rfl, s8⟩
             have CP := Lib.hid (s8.m.copyO (by rw [E0.out.len]; have := SZF.out.1; omega) (by rw [E0.out.len]; exact SZF.out.2.1))
             have S8a := Lib.hid s8
             clear s8)
          | (go_at_call 18; refine CP.out.mono ?_; rintro e w9 ⟨gr9, c9', rfl, o9, b9⟩
             obtain ⟨cur, hcur, hcs⟩ := S8a.out.m.row
             have HCU := Lib.hid ((b9.block gs (Array.getElem?_eq_some_iff.1 hcur).1).trans hcur)
             have HCS := Lib.hid hcs
             have RLN := Lib.hid S8a.out.m.rl.2
             have S9 := Lib.hid (S8a.out.setNew o9 b9)
             clear o9 b9 hcur hcs)
          | (refine wpList_store_row8 rfl 33 (.tmp 7) (.tmp 62) rfl gs (spC gr9 lo.length c9' ro).toArray rfl rfl 33 cur HCU.out (by rw [rs_size RLN.out]; exact infoSpR) (by rw [rs_size RLN.out]; exact HCS.out) spC_ones ?_)
          | (go_at_call 29; refine (S9.out.same EO.out (by omega)).mono ?_; rintro e wz ⟨rfl, sz⟩
             have SZ := Lib.hid sz
             clear sz))
        go_roundw
        case rel => exact ⟨k + 1, gt8, by omega, by go_num, rfl, SZ.out.done (by omega) (by omega) EO.out EO.out (by have := RL.out; omega) RB.out⟩
        case measure => simp [Go.RowKit.intOf]; omega
    · have QL := Lib.hid ql
      clear ql
      go_wp2_with fail
      go_ret
      exact ⟨rfl, QL.out.up⟩
end Go.Proofs.YtjpicaofgiagdaaGreat
