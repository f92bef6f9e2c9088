/-
  Own work. Two rows that grow beside each other; the contract of the document's answer to mac's Raw.
-/
import Derived.Test.YtkpmfpbeidhcbaaRw
import Derived.Test.YtkpmfpbeidhcbaaRs
import Derived.Maps.AppendAt
namespace Go.Proofs.Ytkpmfpbeidhcbaa
open Go.RowKit
set_option linter.unusedVariables false
set_option linter.unusedSimpArgs false

/-- Two values that share no block of the call's own. -/
def Apart2 (u v : Value) : Prop := ∀ k, u.ownBlock = some k → v.ownBlock ≠ some k
theorem Apart2.symm {u v : Value} (h : Apart2 u v) : Apart2 v u := fun k hk hu => h k hu hk
theorem Apart2.ne {u v : Value} (h : Apart2 u v) : v.ownBlock = none ∨ v.ownBlock ≠ u.ownBlock := by
  cases hu : u.ownBlock with
  | none =>
    cases hv : v.ownBlock with
    | none => exact .inl rfl
    | some k => exact .inr (by simp)
  | some k => exact .inr (h k hu)
theorem Apart2.grow {u u' v : Value} {w : World} {base : Nat} {l : List UInt8} {s : Nat} (h : Apart2 u v) (ho : OwnB w base v l) (hs : w.heap.size ≤ s) (hu : u'.ownBlock = u.ownBlock ∨ u'.ownBlock = some s) : Apart2 u' v := by
  intro k hk hv
  rcases hu with e | e
  · exact h k (e ▸ hk) hv
  · rw [e] at hk
    injection hk with hk
    have := (ho.lt k hv).2
    omega

/-- append of one new byte onto a row of the call's own: where the new row lies. -/
theorem wp_app1 {P : Program} {w : World} {ops : Array Oper} {rest : List Oper} {o : Oper} {a : Act} {Q : Exit → Act → World → Prop} (hgd : o.guard = none) (s x : Operand)
    (ho : o.op = .call { callee := .builtin .append, args := #[s, x], argTypes := #[22, 22] })
    (ht : P.underlying 22 = some (.slice 5)) (hi0 : (P.info? 5).map (fun i => (i.zero, i.size, i.bytes)) = some (some (.int .u8 0), 1, 1))
    (base : Nat) (v : Value) (l : List UInt8) (b : UInt8) (hs : a.eval s = v) (hown : OwnB w base v l) (B : Nat) (A : Option Addr) (c : Nat) (hx : a.eval x = .slice A 1 c) (hm : HasB w B A 1 [b])
    (hlen : l.length ≤ 1073741824) (hbase : base ≤ w.heap.size)
    (h : ∀ A' n' c' w', OwnB w' base (.slice A' n' c') (l ++ [b]) → w.grownBy w' v.ownBlock → ((Value.slice A' n' c').ownBlock = v.ownBlock ∨ (Value.slice A' n' c').ownBlock = some w.heap.size) → wpList P ops Q rest (a.put o.dst (.slice A' n' c')) w') : wpList P ops Q (o :: rest) a w := by
  obtain ⟨i, hi, hz, hz1, hby⟩ := info_parts hi0
  obtain ⟨_, hc⟩ := hm
  obtain ⟨g, o', rfl, _, hcell⟩ := hc (by omega)
  refine wpList_append_own_at w hgd s x 22 ho base 5 i (.int .u8 0) 1 1 ht hi hz hz1 hby rfl (by decide) v l.length (cellsB l) hs hown ⟨g, o', none⟩ 1 c (cellsB [b]) hx (by simp [cellsB]) ?_ (cellsB_one _) (by simp only [maxLen]; omega) (by omega) hbase ?_
  · intro j u hu
    obtain ⟨b', hb', rfl⟩ := cellsB_at hu
    rw [Addr.add_lit]
    exact hcell j b' hb'
  · intro v' w' hown' hg _ hat
    have hown2 : OwnB w' base v' (l ++ [b]) := by
      unfold OwnB
      rw [cellsB_append, List.length_append]
      exact hown'
    obtain ⟨A', n', c', rfl, _⟩ := hown2.slice
    exact h A' n' c' w' hown2 hg hat

/-- The key that the document's answer goes on with. -/
def rkL (k : List UInt8) : List UInt8 := if 64 < k.length then sumS k else k
theorem rkL_len (k : List UInt8) : (rkL k).length ≤ 64 := by
  unfold rkL
  split
  · rw [sum_len]; omega
  · omega
theorem keyL_rk (k : List UInt8) : keyL k = rkL k ++ zer (64 - (rkL k).length) := by
  unfold keyL rkL
  split
  · rw [sum_len]
  · rfl
theorem keyL_get (k : List UInt8) (j : Nat) (h : j < 64) : (keyL k)[j]? = some ((rkL k).getD j 0) := by
  have := rkL_len k
  rw [keyL_rk]
  by_cases hj : j < (rkL k).length
  · rw [List.getElem?_append_left hj, List.getD_eq_getElem?_getD, List.getElem?_eq_getElem hj]
    rfl
  · have e : (rkL k)[j]? = none := List.getElem?_eq_none (by omega)
    rw [List.getElem?_append_right (by omega), List.getD_eq_getElem?_getD, e]
    unfold zer
    rw [List.getElem?_replicate, if_pos (by omega)]
    rfl
theorem xorB_snoc (m : UInt8) (l : List UInt8) (j : Nat) (x : UInt8) (h : l[j]? = some x) : xorB m (l.take (j + 1)) = xorB m (l.take j) ++ [x ^^^ m] := by
  obtain ⟨hj, rfl⟩ := List.getElem?_eq_some_iff.1 h
  rw [List.take_succ_eq_append_getElem hj]
  unfold xorB
  rw [List.map_append]
  rfl

/-- What stands ahead of the loop: the key, the answer's place. -/
structure RkW (w wx : World) (A : Option Addr) (n : Nat) (kk : List UInt8) : Prop where
  bel : Below w.heap.size w wx
  ans : Bw wx w.heap.size 30 (zer 32)
  key : HasB wx wx.heap.size A n kk
theorem RkW.on {w wx wy : World} {A : Option Addr} {n : Nat} {kk : List UInt8} (h : RkW w wx A n kk) (hb : Below wx.heap.size wx wy) : RkW w wy A n kk :=
  ⟨h.bel.trans (hb.mono h.bel.size), h.ans.below hb h.ans.lt, h.key.on hb⟩

/-- Two rows that grow beside each other from the world wc on. -/
structure TwoR (wc wr : World) (u v : Value) (l m : List UInt8) : Prop where
  ou : OwnB wr wc.heap.size u l
  ov : OwnB wr wc.heap.size v m
  ap : Apart2 u v
  bel : Below wc.heap.size wc wr
theorem TwoR.nil (w : World) : TwoR w w (.slice none 0 0) (.slice none 0 0) [] [] := ⟨OwnB.nil _ _, OwnB.nil _ _, fun k hk => (by cases hk), Below.refl _ _⟩
section
variable {wc wr w' : World} {u v u' : Value} {l m l' : List UInt8}
theorem TwoR.alloc (h : TwoR wc wr u v l m) (o : Obj) : TwoR wc (wr.alloc o) u v l m := ⟨h.ou.alloc o, h.ov.alloc o, h.ap, h.bel.alloc h.bel.size o⟩
theorem TwoR.left (h : TwoR wc wr u v l m) (ho : OwnB w' wc.heap.size u' l') (hg : wr.grownBy w' u.ownBlock) (hat : u'.ownBlock = u.ownBlock ∨ u'.ownBlock = some wr.heap.size) : TwoR wc w' u' v l' m :=
  ⟨ho, h.ov.kept hg h.ap.ne, h.ap.grow h.ov (Nat.le_refl _) hat, h.bel.trans (below_of_grown h.ou hg h.bel.size)⟩
theorem TwoR.right (h : TwoR wc wr u v l m) (ho : OwnB w' wc.heap.size u' l') (hg : wr.grownBy w' v.ownBlock) (hat : u'.ownBlock = v.ownBlock ∨ u'.ownBlock = some wr.heap.size) : TwoR wc w' u u' l l' :=
  ⟨h.ou.kept hg h.ap.symm.ne, ho, (h.ap.symm.grow h.ou (Nat.le_refl _) hat).symm, h.bel.trans (below_of_grown h.ov hg h.bel.size)⟩
end

set_option maxRecDepth 100000 in
set_option maxHeartbeats 1000000 in
theorem rraw_any (A B : Option Addr) (n c m d : Nat) (k b : List UInt8) (w : World) (h : HasB w w.heap.size A n k) (hb : HasB w w.heap.size B m b) (hn : n ≤ 536870912) (hm : m ≤ 536870912) :
    Calls Try.prog 16 #[.slice A n c, .slice B m d] w (RetID w (macS k b)) := by
  have hkl := h.len
  have hml := hb.len
  have hr := rkL_len k
  have ho := macS_len k b
  obtain ⟨kk, hkk⟩ : ∃ kk, rkL k = kk := ⟨_, rfl⟩
  obtain ⟨O, hO⟩ : ∃ O, macS k b = O := ⟨_, rfl⟩
  have hgetK : ∀ j, j < 64 → (keyL k)[j]? = some (kk.getD j 0) := fun j hj => by rw [← hkk]; exact keyL_get k j hj
  have hK64 := keyL_len k
  obtain ⟨K, hK⟩ : ∃ K, keyL k = K := ⟨_, rfl⟩
  have hO2 : O = sumS (xorB 92 K ++ sumS (xorB 54 K ++ b)) := by rw [← hO, ← hK]; rfl
  rw [hK] at hgetK hK64
  rw [hkk] at hr
  rw [hO] at ho ⊢
  have HS := Lib.hid h
  have HBB := Lib.hid hb
  have HKL := Lib.hid hkl
  have HML := Lib.hid hml
  have HKK := Lib.hid hkk
  have HG := Lib.hid hgetK
  have HK64 := Lib.hid hK64
  have HO := Lib.hid hO2
  have HR := Lib.hid hr
  have IO := Lib.hid (id_iv O ho)
  have OZ := Lib.hid (id_hz O ho)
  clear h hb hkl hml hkk hgetK hK64 hO2 hr ho hK hO
  go_enter Try.func16, Try.ntmps16
  go_upto_region 1 with fail
  generalize hw0 : World.alloc _ _ = w0
  have hb0 : Below w.heap.size w w0 := by rw [← hw0]; exact (Below.refl _ _).alloc (Nat.le_refl _) _
  have hz0 : Bw w0 w.heap.size 30 (zer 32) := by rw [← hw0]; exact Bw.new w (zer 32) _
  have HB0 := Lib.hid hb0
  have HZ0 := Lib.hid hz0
  have HS0 := Lib.hid (HS.out.on hb0)
  clear hb0 hz0 hw0
  go_upto_region 2 with (at_builtin; refine wp_app rfl (.tmp 12) (.tmp 13) rfl Try.underlying22 infoU8 w0.heap.size _ [] k rfl (OwnB.empty w0) w0.heap.size A n c rfl (HS0.out.below ((Below.refl _ _).alloc (Nat.le_refl _) _)) (by rw [← HKL.out]; simp; omega) (by simp) ?_; intro A1 n1 c1 w1 hown1 hg1 hb1)
  rw [List.nil_append] at hown1
  have hbe : Below w0.heap.size w0 w1 := ((Below.refl _ _).alloc (Nat.le_refl _) _).trans hb1
  have hn1 := hown1.len
  have hW1 : RkW w w1 A1 n1 k := ⟨HB0.out.trans (hbe.mono HB0.out.size), HZ0.out.below hbe HZ0.out.lt, hown1.has⟩
  have hcap := hown1.caps
  have HW1 := Lib.hid hW1
  have HB1 := Lib.hid (HBB.out.below hW1.bel)
  have HN1 := Lib.hid hn1
  clear hown1 hg1 hb1 hbe hW1 hn1 hcap
  obtain rfl : n1 = n := by rw [HN1.out, HKL.out]
  go_upto_if 17 with fail
  go_cut [5, 6] (fun s5 s6 wx => ∃ A5 n5 c5, s5 = .slice A5 n5 c5 ∧ RkW w wx A5 n5 kk)
  case first =>
    by_cases hlt : 64 < n1
    · have hs := rsum_any A1 n1 c1 k w1 HW1.out.key (by omega)
      have he : sumS k = kk := by rw [← HKK.out]; unfold rkL; rw [if_pos (by rw [← HN1.out]; exact hlt)]
      rw [he] at hs
      have hq : kk.length = 32 := by rw [← he]; exact sum_len _
      have HSU := Lib.hid hs
      have HQ := Lib.hid hq
      have IQ := Lib.hid (id_iv kk hq)
      have QZ := Lib.hid (id_hz kk hq)
      clear hs he hq
      go_wp2_with (first
        | (go_at_call 29; refine HSU.out.mono ?_; rintro e w2 ⟨rfl, hb2⟩
           have HW2 := Lib.hid (HW1.out.on hb2)
           clear hb2)
        | (refine wpList_store_row rfl 30 (.tmp 6) (.tmp 19) rfl w2.heap.size (cellsB kk).toArray rfl rfl 30 _ (Bw.new w2 (zer 32) 30) IQ.out QZ.out (cellsB_ones _) ?_))
      go_meet
      refine ⟨_, 32, 32, rfl, below_setRow (HW2.out.bel.alloc HW2.out.bel.size _) HW2.out.bel.size _, ?_, ?_⟩
      · have := HW2.out.ans.lt
        exact (HW2.out.ans.alloc _).rowFar (by omega) _
      · exact Bw.has (Bw.row (Bw.new w2 (zer 32) 30)) HQ.out.symm
    · have he : k = kk := by rw [← HKK.out]; unfold rkL; rw [if_neg (by rw [← HN1.out]; exact hlt)]
      have HE := Lib.hid he
      clear he
      go_wp2_with fail
      go_meet
      exact ⟨A1, n1, c1, rfl, HE.out ▸ HW1.out⟩
  case rest =>
    obtain ⟨W0, rfl⟩ : ∃ W0, W0 = wc := ⟨_, rfl⟩
    obtain ⟨A5, n5, c5, rfl, hW5⟩ := hcut
    have hn5 := hW5.key.len
    have HW5 := Lib.hid hW5
    have HN5 := Lib.hid hn5
    clear hW5 hn5
    go_wp2_with fail
    go_loopw [7, 8, 9] (fun x7 x8 x9 wr => ∃ (j : Nat) (A7 A8 : Option Addr) (n7 c7 n8 c8 : Nat), x7 = .slice A7 n7 c7 ∧ x8 = .slice A8 n8 c8 ∧ j ≤ 64 ∧ x9 = .int .i64 (j : Int) ∧ TwoR W0 wr (.slice A7 n7 c7) (.slice A8 n8 c8) (xorB 54 (K.take j)) (xorB 92 (K.take j))) (fun _ _ x9 _ => 64 - (intOf x9).toNat)
    case atStart => exact ⟨0, none, none, 0, 0, 0, 0, rfl, rfl, by omega, rfl, TwoR.nil _⟩
    case round =>
      obtain ⟨j, A7, A8, n7, c7, n8, c8, rfl, rfl, hj, rfl, hT⟩ := hrel
      by_cases hlt : j < 64
      · have hx := HG.out j hlt
        obtain ⟨x, hX⟩ : ∃ x, kk.getD j 0 = x := ⟨_, rfl⟩
        rw [hX] at hx
        obtain ⟨z1, hz1⟩ : ∃ z1, bits .xor .u8 (x.toNat : Int) 54 = z1 := ⟨_, rfl⟩
        obtain ⟨z2, hz2⟩ : ∃ z2, bits .xor .u8 (x.toNat : Int) 92 = z2 := ⟨_, rfl⟩
        have e1 : z1 = ((x ^^^ 54).toNat : Int) := by rw [← hz1]; exact xor8 x 54
        have e2 : z2 = ((x ^^^ 92).toNat : Int) := by rw [← hz2]; exact xor8 x 92
        have hw := HW5.out.on hT.bel
        have hc5 := hw.key.2
        have E1 := Lib.hid e1
        have E2 := Lib.hid e2
        have T := Lib.hid hT
        have HX := Lib.hid hx
        have HX2 := Lib.hid hX
        have H5 := Lib.hid hc5
        have T1 := Lib.hid (hT.alloc (.cells #[.int .u8 z1] 5))
        have L1 : Hid ((xorB 54 (K.take j)).length ≤ 1073741824) := Lib.hid (by rw [xorB_len, List.length_take]; omega)
        have L2 : Hid ((xorB 92 (K.take j)).length ≤ 1073741824) := Lib.hid (by rw [xorB_len, List.length_take]; omega)
        clear hx hX e1 e2 hT hc5 hw
        go_upto_if 28 with fail
        go_cut [10] (fun s10 wx => s10 = .int .u8 (x.toNat : Int) ∧ wr = wx)
        case first =>
          by_cases hj5 : j < n5
          · obtain ⟨g5, o5, rfl, _, hc5⟩ := H5.out (by omega)
            have hk : kk[j]? = some x := by
              have h1 := HX2.out
              rw [List.getD_eq_getElem?_getD, List.getElem?_eq_getElem (by rw [← HN5.out]; exact hj5)] at h1
              rw [List.getElem?_eq_getElem (by rw [← HN5.out]; exact hj5), ← h1]
              rfl
            have d5 := hc5 j x hk
            clear hc5 hk
            go_wp2_with fail
            go_meet
            exact ⟨rfl, rfl⟩
          · have hk : x = 0 := by
              have h1 := HX2.out
              rw [List.getD_eq_getElem?_getD, List.getElem?_eq_none (by rw [← HN5.out]; omega)] at h1
              rw [← h1]
              rfl
            have HK0 := Lib.hid hk
            clear hk
            go_wp2_with fail
            go_meet
            exact ⟨by rw [HK0.out]; rfl, rfl⟩
        case rest =>
          obtain ⟨rfl, rfl⟩ := hcut
          go_wp2_with (first
            | (at_builtin; refine wp_app1 rfl (.tmp 38) (.tmp 41) rfl Try.underlying22 infoU8 W0.heap.size _ (xorB 92 (K.take j)) (x ^^^ 92) rfl T8.out.ov _ _ _ rfl (HasB.one _ _ _ _ E2.out) L2.out T8.out.bel.size ?_; intro A9 n9 c9 w9 ho9 hg9 hat9
               have T9 := Lib.hid (T8.out.right ho9 hg9 hat9)
               clear ho9 hg9 hat9)
            | (at_builtin; refine wp_app1 rfl (.tmp 33) (.tmp 36) rfl Try.underlying22 infoU8 W0.heap.size _ (xorB 54 (K.take j)) (x ^^^ 54) rfl T1.out.ou _ _ _ rfl (HasB.one _ _ _ _ E1.out) L1.out T1.out.bel.size ?_; intro A6 n6 c6 w6 ho6 hg6 hat6
               have T8 := Lib.hid ((T1.out.left ho6 hg6 hat6).alloc (.cells #[.int .u8 z2] 5))
               clear ho6 hg6 hat6))
          refine ⟨⟨j + 1, A6, A9, n6, c6, n9, c9, rfl, rfl, by omega, by go_num, ?_⟩, ?_⟩
          · rw [xorB_snoc 54 K j x HX.out, xorB_snoc 92 K j x HX.out]
            exact T9.out
          · simp [intOf]; omega
      · obtain rfl : j = 64 := by omega
        rw [List.take_of_length_le (by rw [HK64.out]; exact Nat.le_refl _)] at hT
        have hl1 : (xorB 54 K).length = 64 := by rw [xorB_len]; exact HK64.out
        have hl2 : (xorB 92 K).length = 64 := by rw [xorB_len]; exact HK64.out
        obtain ⟨X, hX⟩ : ∃ X, xorB 54 K = X := ⟨_, rfl⟩
        obtain ⟨Z, hZ⟩ : ∃ Z, xorB 92 K = Z := ⟨_, rfl⟩
        rw [hX] at hT hl1
        rw [hZ] at hT hl2
        obtain ⟨Y, hY⟩ : ∃ Y, sumS (X ++ b) = Y := ⟨_, rfl⟩
        have hyl : Y.length = 32 := by rw [← hY]; exact sum_len _
        have hO2 : sumS (Z ++ Y) = O := by rw [← hY, ← hX, ← hZ]; exact HO.out.symm
        have T := Lib.hid hT
        have hb2 : HasB wr w.heap.size B m b := (HBB.out.below HW5.out.bel).below (hT.bel.mono HW5.out.bel.size)
        have HB2 := Lib.hid hb2
        have HL1 := Lib.hid hl1
        have HL2 := Lib.hid hl2
        have HY := Lib.hid hyl
        have HOO := Lib.hid hO2
        have HYY := Lib.hid hY
        have IY := Lib.hid (id_iv Y hyl)
        have YZ := Lib.hid (id_hz Y hyl)
        clear hT hl1 hl2 hX hZ hY hyl hO2 hb2
        go_wp2_with (first
          | (at_builtin; refine wp_app rfl (.tmp 47) (.tmp 48) rfl Try.underlying22 infoU8 W0.heap.size _ Z Y rfl OV2.out _ _ _ _ rfl HYB.out (by rw [HL2.out, HY.out]; omega) BE2.out.size ?_; intro A12 n12 c12 w12 hown12 hg12 hb12
             have hl12 := hown12.len
             rw [List.length_append, HL2.out, HY.out] at hl12
             have hs12 := rsum_any A12 n12 c12 (Z ++ Y) w12 hown12.has (by omega)
             rw [HOO.out] at hs12
             have HS12 := Lib.hid hs12
             have BE12 := Lib.hid (BE2.out.trans hb12)
             clear hown12 hg12 hb12 hl12 hs12)
          | (at_builtin; refine wp_app rfl (.tmp 43) (.tmp 44) rfl Try.underlying22 infoU8 W0.heap.size _ X b rfl T.out.ou _ _ _ _ rfl HB2.out (by rw [HL1.out, ← HML.out]; omega) T.out.bel.size ?_; intro A10 n10 c10 w10 hown10 hg10 hb10
             have hl10 := hown10.len
             rw [List.length_append, HL1.out, ← HML.out] at hl10
             have hs10 := rsum_any A10 n10 c10 (X ++ b) w10 hown10.has (by omega)
             rw [HYY.out] at hs10
             have HS10 := Lib.hid hs10
             have OV10 := Lib.hid (T.out.ov.kept hg10 T.out.ap.ne)
             have BE10 := Lib.hid (T.out.bel.trans hb10)
             clear hown10 hg10 hb10 hl10 hs10)
          | (go_at_call 29; refine HS12.out.mono ?_; rintro e w13 ⟨rfl, hb13⟩
             have be13 := BE12.out.trans (hb13.mono BE12.out.size)
             have BW13 := Lib.hid (HW5.out.bel.trans (be13.mono HW5.out.bel.size))
             have AN13 := Lib.hid (HW5.out.ans.below be13 HW5.out.ans.lt)
             clear hb13 be13)
          | (go_at_call 29; refine HS10.out.mono ?_; rintro e w11 ⟨rfl, hb11⟩
             have be11 := BE10.out.trans (hb11.mono BE10.out.size)
             have OV11 := Lib.hid (OV10.out.below hb11)
             have BE11 := Lib.hid be11
             clear hb11 be11)
          | (refine wpList_store_row rfl 30 (.tmp 11) (.tmp 46) rfl w11.heap.size (cellsB Y).toArray rfl rfl 30 _ (Bw.new w11 (zer 32) 30) IY.out YZ.out (cellsB_ones _) ?_
             have hrow := (Below.refl w11.heap.size w11).alloc (Nat.le_refl _) (.cells (cellsB (zer 32)).toArray 30)
             have hrow2 := below_setRow hrow (Nat.le_refl _) (cellsB Y).toArray
             have OV2 := Lib.hid (OV11.out.below hrow2)
             have BE2 := Lib.hid (BE11.out.trans (hrow2.mono BE11.out.size))
             have HYB := Lib.hid (Bw.has (Bw.row (m := Y) (Bw.new w11 (zer 32) 30)) HY.out.symm)
             clear hrow hrow2)
          | (refine wpList_store_row rfl 30 (.tmp 4) (.tmp 50) rfl w.heap.size (cellsB O).toArray rfl rfl 30 _ AN13.out IO.out OZ.out (cellsB_ones _) ?_))
        refine bodyPost_ret (v := .agg (cellsB O).toArray) ?_ (by rfl) ?_
        · exact results_cell_row (p := 4) (ty := 30) rfl _ _ w.heap.size 30 (cellsB O).toArray _ _ rfl (setRow_heap _ _ _ _ 30 _ AN13.out) Try.underlying30 rfl IO.out
        · exact ⟨rfl, below_setRow BW13.out (Nat.le_refl _) _⟩
end Go.Proofs.Ytkpmfpbeidhcbaa
