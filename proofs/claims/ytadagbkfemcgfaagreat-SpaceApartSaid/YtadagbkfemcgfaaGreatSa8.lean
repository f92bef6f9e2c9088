/-
  Own work. The statements of layer 8: SpaceApart.
-/
import Derived.Test.YtadagbkfemcgfaaGreatS8
import Derived.Test.YtadagbkfemcgfaaGreatPl
import Derived.Test.YtadagbkfemcgfaaGreatIr
import Derived.Test.YtadagbkfemcgfaaGreatG5
namespace Go.Proofs.YtadagbkfemcgfaaGreat
open Go.RowKit Go.Maps
set_option linter.unusedVariables false
set_option linter.unusedSimpArgs false

/-! ### A row of booleans -/
def BR (w : World) (g : Nat) (l : List Bool) : Prop := w.heap[g]? = some (.cells (l.map Value.bool).toArray 4 (0, 0))
section
variable {w w' : World} {g : Nat} {l : List Bool}
theorem BR.lt (a : BR w g l) : g < w.heap.size := (Array.getElem?_eq_some_iff.1 a).1
theorem BR.cell (a : BR w g l) {i : Nat} {x : Bool} (hx : l[i]? = some x) : w.cell? ⟨g, i, none⟩ = some (.bool x) := by
  rw [cell_of_row _ _ _ _ _ _ a]
  simp [hx]
theorem BR.free (a : BR w g l) (i : Nat) : w.frozen? ⟨g, i, none⟩ = false := frozen_of_row w g i _ _ a
theorem BR.set (a : BR w g l) (i : Nat) (x : Bool) : BR (w.setCell ⟨g, i, none⟩ (.bool x)) g (l.set i x) := by
  have h1 := heap_setCell_same w g i _ _ (.bool x) a
  unfold BR
  rw [h1, List.map_set, List.setIfInBounds_toArray]
theorem BR.only {S : Nat → Prop} (a : BR w g l) (ho : Only S w w') (hS : ¬ S g) : BR w' g l := (ho.block g a.lt hS).trans a
theorem BR.below (a : BR w g l) (hb : Below w.heap.size w w') : BR w' g l := (hb.block g a.lt).trans a
end
theorem wpList_makeBools {ops : Array Oper} {rest : List Oper} {o : Oper} {a : Act} {w : World} {Q : Exit → Act → World → Prop} (hg : o.guard = none) (l c : Operand) (hop : o.op = Op.makeSlice 29 l c)
    (X : Int) (n : Nat) (hX : X = (n : Int)) (hl : a.eval l = .int .i64 X) (hc : a.eval c = .int .i64 X) (hn : n ≤ 4096)
    (hK : wpList Tryz.prog ops Q rest (a.put o.dst (.slice (some ⟨w.heap.size, 0, none⟩) n n)) (w.alloc (.cells ((List.replicate n false).map Value.bool).toArray 4))) : wpList Tryz.prog ops Q (o :: rest) a w := by
  subst hX
  refine wpList_plain hg fun K hK' => ?_
  have hi : (Tryz.prog.info? 4).map (fun i => (i.zero, i.size, i.bytes)) = some (some (.bool false), 1, 1) := by kernel_rfl
  obtain ⟨i, h2, h3, h4, h5⟩ := info_parts hi
  have hrun := run_make (P := Tryz.prog) w 29 4 i _ Tryz.underlying29 h2 h3 .i64 .i64 (n : Int) (n : Int) (by omega) (by omega) (by rw [h5]; omega) (by omega)
  rw [Int.toNat_natCast, h4, show madeCells (Value.bool false).cells (n * 1) = ((List.replicate n false).map Value.bool).toArray from by
    have := madeZ (Value.bool false) 1 n (by omega)
    rw [Nat.mul_one, List.map_replicate]
    exact this] at hrun
  unfold Oper.wp execOp
  simp only [hop, hl, hc, Sem.run_bind, Sem.run_pure, Result.andThen_ok, hrun]
  exact hK' _ _ hK
/-- What the row of used ones says: what is taken. -/
def Us (l : List Bool) (h : Nat) (f : Nat → Bool) : Prop := l.length = h ∧ ∀ x, x < h → l[x]? = some (f x)
theorem Us.set {l : List Bool} {h s : Nat} {f f' : Nat → Bool} (a : Us l h f) (hf : ∀ x, x < h → f' x = (if x = s then true else f x)) (hs : s < h) : Us (l.set s true) h f' := by
  refine ⟨by rw [List.length_set]; exact a.1, fun x hx => ?_⟩
  rw [List.getElem?_set, hf x hx]
  by_cases hxs : x = s
  · rw [if_pos hxs.symm, if_pos (by rw [a.1]; exact hs), if_pos hxs]
  · rw [if_neg (fun e => hxs e.symm), if_neg hxs]
    exact a.2 x hx
set_option maxRecDepth 100000 in
set_option maxHeartbeats 8000000 in
theorem spaceapart_law (Z : DK) (a0 : Int) (A1 : Option Addr) (n1 c1 : Nat) (z1 : List Int) (w : World) (h0 : -9223372036854775808 ≤ a0 ∧ a0 ≤ 9223372036854775807) (hi1 : HasIr w w.heap.size A1 n1 z1) :
    Calls Tryz.prog 3 #[.int .i64 a0, .slice A1 n1 c1] w (RetTrue w) := by
  have CG := Lib.hid (fun W => begun8_any Z W)
  have HI := Lib.hid hi1
  have L1 := Lib.hid hi1.1
  by_cases hl1 : 60 < n1
  · have hl : (60 : Int) < (n1 : Int) := by omega
    clear hi1 h0
    go_enter Tryz.func3, Tryz.ntmps3
    go_wp2_with (first
      | (go_at_call 7; refine (CG.out _).mono ?_; rintro e w1 ⟨rfl, b1⟩
         have B1 := Lib.hid b1
         clear b1))
    go_ret
    exact ⟨rfl, B1.out⟩
  have hl1' : ¬ (60 : Int) < (n1 : Int) := by omega
  have HN : Hid (n1 ≤ 60) := Lib.hid (by omega)
  have CB := Lib.hid (fun W n hb h1 h2 => begun_sp Z w W hb n h1 h2)
  have CP0 := Lib.hid (fun W => place_any a0 200 W h0 (by omega) (by omega))
  have CPZ : Hid (∀ z W, z ∈ z1 → Calls Tryz.prog 8 #[.int .i64 z, .int .i64 64] W fun e w' => (∃ v : Nat, v < 64 ∧ e = .returned (.int .i64 (v : Int))) ∧ W = w') := Lib.hid (fun z W hz => place_any z 64 W (hi1.2.1 z hz) (by omega) (by omega))
  clear h0 hi1
  go_enter Tryz.func3, Tryz.ntmps3
  go_upto_region 7 with (first
    | (go_at_call 7; refine (CG.out _).mono ?_; rintro e w1 ⟨rfl, b1⟩
       have B1 := Lib.hid b1
       clear b1)
    | (go_at_call 8; refine (CP0.out _).mono ?_; rintro e w2 ⟨⟨m, hm, rfl⟩, rfl⟩
       have en : (64 : Int) + (m : Int) = ((64 + m : Nat) : Int) := by omega
       have EN := Lib.hid en
       clear en)
    | (go_at_call 9; rw [EN.out]; refine (CB.out _ (64 + m) B1.out (by omega) (by omega)).mono ?_; rintro e w3 ⟨g, gd, gp, gt, rfl, s3⟩
       have S3 := Lib.hid s3
       clear s3))
  obtain ⟨n, hn⟩ : ∃ n, 64 + m = n := ⟨_, rfl⟩
  have e0 : (64 : Int) + (m : Int) = (n : Int) := by omega
  rw [hn] at S3
  rw [e0]
  have hn1 : 64 ≤ n := by omega
  have hn2 : n ≤ 264 := by omega
  clear hn hm EN CB CP0 e0
  obtain ⟨h, hh⟩ : ∃ h, n - 2 - 16 = h := ⟨_, rfl⟩
  have HH := Lib.hid hh
  have e18 : (n : Int) - 18 = (h : Int) := by omega
  have E18 := Lib.hid e18
  have hh1 : 46 ≤ h := by omega
  have hh2 : h ≤ 246 := by omega
  clear hh e18
  go_upto_region 10 with (first
    | (refine wpList_makeBools rfl (.tmp 34) (.tmp 34) rfl _ h E18.out rfl rfl (by omega) ?_))
  generalize hW4 : World.alloc _ _ = w4
  have hb4 : Below w3.heap.size w3 w4 := by rw [← hW4]; exact (Below.refl _ _).alloc (Nat.le_refl _) _
  have BR4 : Hid (BR w4 w3.heap.size (List.replicate h false)) := Lib.hid (by
    have e : ((List.replicate h false).map Value.bool).toArray = Array.replicate h (Value.bool false) := by simp
    unfold BR
    rw [← hW4, e]
    exact heap_alloc_new w3 _)
  have S4 : Hid (SpU Z w w4 g gd gp gt n (3 * n + 45) 16 0 B0 (fun k => k = w3.heap.size)) := Lib.hid (S3.out.add (Only.of_below hb4 (Nat.le_refl _)) (fun k hk => .inr (by have := BR4.out.lt; omega)))
  obtain ⟨gu, hgu⟩ : ∃ gu, w3.heap.size = gu := ⟨_, rfl⟩
  rw [hgu] at BR4 S4 ⊢
  clear hW4 hb4 S3 hgu
  go_wp2_with fail
  go_loopw [8] (fun i wr => ∃ (k : Nat) (l : List Bool), k ≤ 4 ∧ i = .int .i64 (k : Int) ∧ SpU Z w wr g gd gp gt n (3 * n + 45) 16 0 B0 (fun k => k = gu) ∧ BR wr gu l ∧ Us l h (fun x => decide (x < k))) (fun i _ => 4 - (Go.RowKit.intOf i).toNat)
  case atStart => exact ⟨0, _, by omega, rfl, S4.out, BR4.out, by simp, fun x hx => by rw [List.getElem?_replicate, if_pos hx]; simp⟩
  case round =>
    clear S4 BR4
    obtain ⟨k, l, hk, rfl, qs, qb, qu⟩ := hrel
    have QS := Lib.hid qs
    have QB := Lib.hid qb
    have QU := Lib.hid qu
    by_cases hlt : k < 4
    · have hc := qb.cell (qu.2 k (by omega))
      have hf := qb.free k
      have hkh : k < h := by omega
      clear qs qb qu
      go_wp2_with fail
      go_roundw
      case rel => exact ⟨k + 1, _, by omega, by go_num, QS.out.add ((Only.refl _ _).setCell (p := ⟨gu, k, none⟩) (.inl rfl) _) (fun k hk => .inl hk), QB.out.set k true, QU.out.set (fun x hx => by
        by_cases he : x = k
        · rw [if_pos he]; exact decide_eq_true (by omega)
        · rw [if_neg he, Bool.eq_iff_iff]; simp; omega) hkh⟩
      case measure => simp [Go.RowKit.intOf]; omega
    · obtain rfl : k = 4 := by omega
      have US : Hid (Us l h (tkB B0)) := Lib.hid ⟨qu.1, fun x hx => by rw [B0_tk]; exact qu.2 x hx⟩
      clear qs qb qu QU
      go_wp2_with fail
      go_loopw [9] (fun i wr => ∃ (k q : Nat) (b : List UInt8) (l : List Bool), k ≤ n1 ∧ q ≤ k ∧ i = .int .i64 (k : Int) ∧ SpU Z w wr g gd gp gt n (3 * n + 45) 16 q b (fun k => k = gu) ∧ BR wr gu l ∧ Us l h (tkB b)) (fun i _ => n1 - (Go.RowKit.intOf i).toNat)
      case atStart => exact ⟨0, 0, B0, l, by omega, by omega, rfl, QS.out, QB.out, US.out⟩
      case round =>
        clear QS QB US
        obtain ⟨k, q, b, l, hk, hq, rfl, qs, qb, qu⟩ := hrel
        obtain ⟨W5, rfl⟩ : ∃ W, W = wr := ⟨_, rfl⟩
        have hbl := (qs.sz (by omega)).2.2
        have BLN := Lib.hid hbl
        have QS := Lib.hid qs
        have QB := Lib.hid qb
        have QU := Lib.hid qu
        have UL : Hid (l.length = h) := Lib.hid qu.1
        clear qs qb qu hbl
        have hn60 := HN.out
        by_cases hlt : k < n1
        · obtain ⟨g0, o0, rfl, hg0, hcl⟩ := HI.out.2.2 (by omega)
          obtain ⟨z, hz⟩ : ∃ z, z1[k]? = some z := ⟨_, List.getElem?_eq_getElem (by rw [← L1.out]; exact hlt)⟩
          have k0 : W5.cell? ⟨g0, o0 + k, none⟩ = some (.int .i64 z) := (QS.out.up.cell hg0).trans (hcl k z hz)
          have HZM := Lib.hid (List.mem_of_getElem? hz)
          clear hcl hz
          go_upto_region 18 with (first
            | (go_at_call 8; refine (CPZ.out z _ HZM.out).mono ?_; rintro e w6 ⟨⟨v, hv, rfl⟩, rfl⟩))
          obtain ⟨kk, hkk⟩ : ∃ kk, 1 + v = kk := ⟨_, rfl⟩
          have ek : (1 : Int) + (v : Int) = (kk : Int) := by omega
          have hk1 : 1 ≤ kk := by omega
          have hk2 : kk ≤ 64 := by omega
          rw [ek]
          clear hkk ek hv k0
          rcases gap_or b h kk with ng | ⟨s, sg⟩
          · have NG := Lib.hid ng
            have CT := Lib.hid (take_no QS.out (by omega) kk hk1 hk2 (by rw [HH.out]; exact ng))
            clear ng
            go_upto_region 20 with (first
              | (go_at_call 10; refine CT.out.mono ?_; rintro e w7 ⟨rfl, s7, y7⟩
                 have S7 := Lib.hid s7
                 have B7 := Lib.hid (QB.out.only y7 (fun hn => hn rfl))
                 clear s7 y7))
            clear CT
            go_wp2_with fail
            go_loopw [13, 14] (fun run x wr => ∃ (y f : Nat), wr = w7 ∧ y ≤ h ∧ x = .int .i64 (y : Int) ∧ run = .int .i64 (f : Int) ∧ GapI b kk y f) (fun _ x _ => h - (Go.RowKit.intOf x).toNat)
            case atStart => exact ⟨0, 0, rfl, by omega, rfl, rfl, GapI.zero b hk1⟩
            case round =>
              obtain ⟨y, f, rfl, hy, rfl, rfl, gi⟩ := hrel
              have hfk := gi.2.1
              have hfy := gi.1
              by_cases hlty : y < h
              · obtain ⟨t, ht⟩ : ∃ t, tkB b y = t := ⟨_, rfl⟩
                have cy := B7.out.cell (QU.out.2 y hlty)
                rw [ht] at cy
                have HT := Lib.hid ht
                have GI := Lib.hid gi
                clear gi ht
                cases t
                · have hf1 : f + 1 < kk := by
                    by_cases hf : f + 1 = kk
                    · exact (NG.out.gap (GI.out.done HT.out hf hlty)).elim
                    · omega
                  go_wp2_with fail
                  go_roundw
                  case rel => exact ⟨y + 1, f + 1, trivial, by omega, by go_num, by go_num, GI.out.miss HT.out hf1⟩
                  case measure => simp [Go.RowKit.intOf]; omega
                · go_wp2_with fail
                  go_roundw
                  case rel => exact ⟨y + 1, 0, trivial, by omega, by go_num, rfl, GI.out.hit HT.out⟩
                  case measure => simp [Go.RowKit.intOf]; omega
              · go_wp2_with fail
                go_roundw
                case rel =>
                  (repeat apply Exists.intro)
                  exact ⟨⟨k + 1, q, b, l, by omega, by omega, by go_num, S7.out, B7.out, QU.out⟩, rfl⟩
                case measure => simp [Go.RowKit.intOf]; omega
          · have SG := Lib.hid sg
            have CT := Lib.hid (take_yes QS.out (by omega) (by omega) kk s hk1 hk2 (by rw [HH.out]; exact sg))
            have hs4 := sg.four hk1
            have hsk := sg.1
            clear sg
            go_upto_region 31 with (first
              | (go_at_call 10; refine CT.out.mono ?_; rintro e w7 ⟨rfl, s7, y7⟩
                 have S7 := Lib.hid s7
                 have B7 := Lib.hid (QB.out.only y7 (fun hn => hn rfl))
                 clear s7 y7))
            clear CT
            have FL : Hid (∀ x, tkB (flipL b s kk) x = (tkB b x || (decide (s ≤ x) && decide (x < s + kk)))) := Lib.hid (fun x => tk_take BLN.out (by omega) hk1 SG.out x)
            obtain ⟨b', hb'⟩ : ∃ b', flipL b s kk = b' := ⟨_, rfl⟩
            rw [hb'] at FL S7
            clear hb'
            go_wp2_with fail
            go_loopw [15] (fun x wr => ∃ (m : Nat) (l' : List Bool), m ≤ kk ∧ x = .int .i64 ((s + m : Nat) : Int) ∧ SpU Z w wr g gd gp gt n (3 * n + 45) 16 (q + 1) b' (fun k => k = gu) ∧ BR wr gu l' ∧ Us l' h (fun x => tkB b x || (decide (s ≤ x) && decide (x < s + m)))) (fun x _ => s + kk - (Go.RowKit.intOf x).toNat)
            case atStart => exact ⟨0, l, by omega, rfl, S7.out, B7.out, QU.out.1, fun x hx => by
              show l[x]? = some (tkB b x || (decide (s ≤ x) && decide (x < s + 0)))
              rw [QU.out.2 x hx]
              by_cases h1 : s ≤ x
              · rw [decide_eq_false (p := x < s + 0) (by omega)]; simp
              · rw [decide_eq_false h1]; simp⟩
            case round =>
              clear S7 B7
              obtain ⟨m, l', hm, rfl, qs, qb, qu⟩ := hrel
              have US := Lib.hid qu
              have UL2 : Hid (l'.length = h) := Lib.hid qu.1
              have QB2 := Lib.hid qb
              have QS2 := Lib.hid qs
              clear qs qb qu
              by_cases hltm : m < kk
              · obtain ⟨x, hx⟩ : ∃ x, s + m = x := ⟨_, rfl⟩
                have HX := Lib.hid hx
                have hxh : x < h := by omega
                have hxs : x < s + kk := by omega
                have tb : tkB b' x = true := by rw [FL.out]; simp; omega
                have ct := taken_sp QS2.out (by omega) x (by rw [HH.out]; exact hxh)
                rw [tb] at ct
                have CT := Lib.hid ct
                have ub : l'[x]? = some false := by
                  have u2 : l'[x]? = some (tkB b x || (decide (s ≤ x) && decide (x < s + m))) := US.out.2 x hxh
                  have := SG.out.2.1 m (by omega)
                  rw [show s + m = x from hx] at this
                  rw [u2, this, decide_eq_false (p := x < s + m) (by omega)]
                  simp
                have UB := Lib.hid ub
                rw [hx]
                clear tb ct ub hx
                go_upto_region 35 with (first
                  | (go_at_call 11; refine CT.out.mono ?_; rintro e w8 ⟨rfl, s8, y8⟩
                     have S8 := Lib.hid s8
                     have B8 := QB2.out.only y8 (fun hn => hn rfl)
                     have hc8 := B8.cell UB.out
                     have hf8 := B8.free x
                     have BB8 := Lib.hid B8
                     clear s8 y8 B8))
                go_wp2_with fail
                go_roundw
                case rel => exact ⟨m + 1, _, by omega, (by rw [show s + (m + 1) = x + 1 by have := HX.out; omega]; first | go_num | (congr 1; omega) | (congr 2; omega)), S8.out.add ((Only.refl _ _).setCell (p := ⟨gu, x, none⟩) (.inl rfl) _) (fun k hk => .inl hk), BB8.out.set x true, US.out.set (fun y hy => by
                  have := HX.out
                  by_cases he : y = x
                  · rw [if_pos he]
                    show (tkB b y || (decide (s ≤ y) && decide (y < s + (m + 1)))) = true
                    rw [decide_eq_true (p := s ≤ y) (by omega), decide_eq_true (p := y < s + (m + 1)) (by omega)]; simp
                  · rw [if_neg he]
                    show (tkB b y || (decide (s ≤ y) && decide (y < s + (m + 1)))) = (tkB b y || (decide (s ≤ y) && decide (y < s + m)))
                    rw [show decide (y < s + (m + 1)) = decide (y < s + m) from decide_eq_decide.2 (by omega)]) hxh⟩
                case measure => simp [Go.RowKit.intOf]; omega
              · obtain rfl : m = kk := by omega
                go_wp2_with fail
                go_roundw
                case rel =>
                  (repeat apply Exists.intro)
                  exact ⟨⟨k + 1, q + 1, b', l', by omega, by omega, by go_num, QS2.out, QB2.out, US.out.1, fun x hx => by rw [US.out.2 x hx, FL.out]⟩, rfl⟩
                case measure => simp [Go.RowKit.intOf]; omega
        · go_wp2_with fail
          go_ret
          exact ⟨rfl, QS.out.up⟩
end Go.Proofs.YtadagbkfemcgfaaGreat
