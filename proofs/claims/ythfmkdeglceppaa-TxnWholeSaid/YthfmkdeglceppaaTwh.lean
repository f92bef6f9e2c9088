/-
  Own work. The statements of layer 7: TxnWhole.
-/
import Derived.Test.YthfmkdeglceppaaCu6
import Derived.Test.YthfmkdeglceppaaTg
import Derived.Test.YthfmkdeglceppaaIr
import Derived.Test.YthfmkdeglceppaaPl
namespace Go.Proofs.Ythfmkdeglceppaa
open Go.RowKit Go.Maps
set_option linter.unusedVariables false
set_option linter.unusedSimpArgs false

/-- What Place makes of a number. -/
def plN (k : Int) (n : Nat) : Nat := if k.tmod n < 0 then (k.tmod n + n).toNat else (k.tmod n).toNat
theorem plN_lt (k : Int) {n : Nat} (hn : 1 ≤ n) : plN k n < n := by
  have h1 : -(n : Int) < k.tmod n := by
    have := Int.lt_tmod_of_pos k (b := n) (by omega)
    exact this
  have h2 : k.tmod n < n := Int.tmod_lt_of_pos k (by omega)
  unfold plN
  split <;> omega
theorem place_is (k : Int) (n : Nat) (w : World) (hk : -9223372036854775808 ≤ k ∧ k ≤ 9223372036854775807) (hn : 1 ≤ n) (hm : n ≤ 1073741824) :
    Calls Try.prog 12 #[.int .i64 k, .int .i64 (n : Int)] w fun e w' => e = .returned (.int .i64 (plN k n : Nat)) ∧ w = w' := by
  have h1 : -(n : Int) < k.tmod n := by
    have := Int.lt_tmod_of_pos k (b := n) (by omega)
    exact this
  have h2 : k.tmod n < n := Int.tmod_lt_of_pos k (by omega)
  have hv : (k.tmod n < 0 → ((plN k n : Nat) : Int) = k.tmod n + n) ∧ (¬ k.tmod n < 0 → ((plN k n : Nat) : Int) = k.tmod n) := by
    unfold plN
    constructor
    · intro h; rw [if_pos h]; omega
    · intro h; rw [if_neg h]; omega
  obtain ⟨v, hvv⟩ : ∃ v : Int, ((plN k n : Nat) : Int) = v := ⟨_, rfl⟩
  rw [hvv] at hv ⊢
  obtain ⟨r, hr⟩ : ∃ r, k.tmod n = r := ⟨_, rfl⟩
  rw [hr] at h1 h2 hv
  have HV := Lib.hid hv
  obtain ⟨h3, h4⟩ := hk
  clear hvv hv
  go_enter Try.func12, Try.ntmps12
  go_wp2
  all_goals go_ret
  · refine ⟨?_, rfl⟩
    show Ending.returned (.int .i64 (r + n)) = _
    rw [HV.out.1 (by assumption)]
  · refine ⟨?_, rfl⟩
    show Ending.returned (.int .i64 r) = _
    rw [HV.out.2 (by omega)]
/-- What the transaction has written. -/
def whL (s : ByteArray) (zs : List Int) : List ByteArray := zs.foldl (fun ws z => ws.set (plN z 66) s) (List.replicate 66 emp)
theorem whL_snoc (s : ByteArray) (zs : List Int) (z : Int) : whL s (zs ++ [z]) = (whL s zs).set (plN z 66) s := by unfold whL; rw [List.foldl_append]; rfl
theorem whF (s : ByteArray) : ∀ (zs : List Int) (ws : List ByteArray), ws.length = 66 →
    (zs.foldl (fun ws z => ws.set (plN z 66) s) ws).length = 66 ∧ (∀ i, (ws.getD i emp = s) → (zs.foldl (fun ws z => ws.set (plN z 66) s) ws).getD i emp = s) ∧ (∀ z ∈ zs, (zs.foldl (fun ws z => ws.set (plN z 66) s) ws).getD (plN z 66) emp = s)
  | [], ws, h => ⟨h, fun i hi => hi, fun z hz => absurd hz (by simp)⟩
  | z :: zs, ws, h => by
    have hz := plN_lt z (n := 66) (by omega)
    obtain ⟨h1, h2, h3⟩ := whF s zs (ws.set (plN z 66) s) (by rw [List.length_set]; exact h)
    refine ⟨h1, fun i hi => h2 i ?_, fun y hy => ?_⟩
    · rw [getD_set _ _ _ _ (by rw [h]; exact hz)]
      split
      · rfl
      · exact hi
    · rcases List.mem_cons.1 hy with rfl | hy
      · refine h2 _ ?_
        rw [getD_set _ _ _ _ (by rw [h]; exact hz), if_pos rfl]
      · exact h3 y hy
theorem whL_len (s : ByteArray) (zs : List Int) : (whL s zs).length = 66 := (whF s zs _ List.length_replicate).1
theorem whL_in (s : ByteArray) (zs : List Int) {z : Int} (hz : z ∈ zs) : (whL s zs).getD (plN z 66) emp = s := (whF s zs _ List.length_replicate).2.2 z hz
theorem whL_cnt {s : ByteArray} (hs : s.size ≠ 0) (zs : List Int) : (frK (whL s zs) 66).length ≤ zs.length := by
  have key : ∀ (zs : List Int) (ws : List ByteArray), ws.length = 66 → (frK (zs.foldl (fun ws z => ws.set (plN z 66) s) ws) 66).length ≤ (frK ws 66).length + zs.length := by
    intro zs
    induction zs with
    | nil => intro ws _; exact Nat.le_refl _
    | cons z zs ih =>
      intro ws h
      have h1 := ih (ws.set (plN z 66) s) (by rw [List.length_set]; exact h)
      have h2 := frK_cnt (ws := ws) (i := plN z 66) (by rw [h]; exact plN_lt z (by omega)) hs 66
      have h3 : (if plN z 66 < 66 ∧ (ws.getD (plN z 66) emp).size = 0 then 1 else 0) ≤ 1 := by split <;> omega
      rw [List.length_cons]
      show (frK (zs.foldl _ (ws.set (plN z 66) s)) 66).length ≤ _
      omega
  have h : (frK (whL s zs) 66).length ≤ _ := key zs (List.replicate 66 emp) List.length_replicate
  rw [frK_rep] at h
  omega
theorem SA.nil {p : Pt} {n V T u r : Nat} {j : JM} {H : Nat → List UInt8} (a : SA p n V j T u r H) (hV : V ≤ 1073000000) : cmt p n j [] = ⟨0, p, j⟩ := by
  obtain ⟨b1, b2, b3, b4, b5, b6, b7, b8, b9, b10, b11, b12, b13, b14, b15⟩ := a.facts hV
  have hv : lstE n j [] = 0 := by
    unfold lstE lsE
    rw [if_neg (by decide), if_neg (by rw [b2]; show ¬ (40 < 0 ∨ r ≤ 0); omega)]
  unfold cmt
  rw [if_neg (by rw [b15]; exact fun h => h rfl), if_neg (by rw [hv]; exact fun h => h rfl), if_pos rfl]
/-- All of the homes begin with 1, or all with 0. -/
def WhR (V : Nat) (zs : List Int) (dd : Bool) (g : Nat → List UInt8) : Prop :=
  ∃ (bv : Bool) (T : Nat) (H : Nat → List UInt8), (dd = false → bv = true) ∧ Rec 128 V 60 T H g ∧ ∀ z ∈ zs, (H (plN z 66)).length = 512 ∧ (H (plN z 66))[0]? = some (if bv = true then 1 else 0)
theorem txH_in {H : Nat → List UInt8} {D : List UInt8} (hD : D.length = 512) (zs : List Int) {z : Int} (hz : z ∈ zs) : txH H (whL (strB D) zs) (plN z 66) = D := by
  unfold txH
  rw [whL_in (strB D) zs hz, if_pos (by rw [strB_size]; omega), lst_strB]
theorem wh_pkg {p : Pt} {j : JM} {u : Nat} {D : List UInt8} (a : SA p 128 258 j 1 u 60 (fun _ => zsec)) (hD : D.length = 512) (h0 : D[0]? = some 1) (zs : List Int) (hzs : zs.length ≤ 40) :
    ((cmt p 128 j (tPu (whL (strB D) zs) 66)).e = 0 ∧ (cmt p 128 j (tPu (whL (strB D) zs) 66)).p.m.off = false ∧ Aft (cmt p 128 j (tPu (whL (strB D) zs) 66)).p.m 128 429 (WhR 429 zs false)) ∨
    ((cmt p 128 j (tPu (whL (strB D) zs) 66)).e = 8 ∧ (cmt p 128 j (tPu (whL (strB D) zs) 66)).p.m.off = true ∧ Aft (cmt p 128 j (tPu (whL (strB D) zs) 66)).p.m 128 429 (WhR 429 zs true)) := by
  have hsz : (strB D).size ≠ 0 := by rw [strB_size]; omega
  have hcnt := whL_cnt hsz zs
  have hz0 : (zsec)[0]? = some 0 := rfl
  have hlen : (tPu (whL (strB D) zs) 66).length = (frK (whL (strB D) zs) 66).length := tPu_len _ _
  have hwz : ∀ s ∈ whL (strB D) zs, s.size = 0 ∨ s.size = 512 := by
    have key : ∀ (zs : List Int) (ws : List ByteArray), (∀ s ∈ ws, s.size = 0 ∨ s.size = 512) → ∀ s ∈ zs.foldl (fun ws z => ws.set (plN z 66) (strB D)) ws, s.size = 0 ∨ s.size = 512 := by
      intro zs
      induction zs with
      | nil => intro ws h; exact h
      | cons z zs ih =>
        intro ws h
        refine ih _ (fun s hs => ?_)
        rcases List.mem_or_eq_of_mem_set hs with hs | hs
        · exact h s hs
        · subst hs; exact .inr (by rw [strB_size]; exact hD)
    exact key zs _ (fun s hs => .inl (by rw [List.eq_of_mem_replicate hs]; rfl))
  by_cases hne : frK (whL (strB D) zs) 66 = []
  · have hnil : tPu (whL (strB D) zs) 66 = [] := by unfold tPu; rw [hne]; rfl
    have hzn : zs = [] := by
      cases zs with
      | nil => rfl
      | cons z zs =>
        exfalso
        have h1 := whL_in (strB D) (z :: zs) (z := z) (by simp)
        have h2 := frK_in (F := whL (strB D) (z :: zs)) (plN_lt z (n := 66) (by omega)) (by rw [h1]; exact hsz)
        rw [hne] at h2
        cases h2
    rw [hnil, a.nil (by omega)]
    obtain ⟨f, q, c, hr⟩ := a.rec_
    refine .inl ⟨rfl, q.on, (q.more (by omega)).aft c (fun g hg => ⟨true, 1, _, fun _ => rfl, (hr.more (by omega)).congr hg, fun z hz => ?_⟩)⟩
    rw [hzn] at hz
    cases hz
  · have hpn : tPu (whL (strB D) zs) 66 ≠ [] := fun h' => hne (by
      have := congrArg List.length h'
      rw [hlen] at this
      exact List.length_eq_zero_iff.1 this)
    have hv : lstE 128 j (tPu (whL (strB D) zs) 66) = 0 := a.may (by omega) (tPu_ok (whL_len _ _) hwz) (tPu_nodup _ _) (by omega) (by omega)
    have hput : ∀ i, i < 128 - 2 - 60 → putH (fun _ => zsec) (chs (tPu (whL (strB D) zs) 66)) i = txH (fun _ => zsec) (whL (strB D) zs) i := fun i hi => putH_tPu _ _ _ hi
    rcases a.commit (by omega) hv hpn with ⟨c1, u', c2⟩ | ⟨c1, c2⟩
    · obtain ⟨f, q, c, hr⟩ := c2.rec_
      refine .inl ⟨c1, q.on, q.aft c (fun g hg => ⟨true, _, _, fun _ => rfl, (hr.congr hg).homes hput, fun z hz => ?_⟩)⟩
      rw [txH_in hD zs hz]
      exact ⟨hD, h0⟩
    · have hoff := c2
      obtain ⟨Q, dq, _⟩ := hoff
      refine .inr ⟨c1, dq.off, (c2.mono (Nat.le_refl _) (fun g hg => ?_)).aft⟩
      rcases hg with hg | hg
      · exact ⟨false, _, _, fun h => by (cases h), hg, fun z hz => ⟨zsec_len, hz0⟩⟩
      · refine ⟨true, _, _, fun h => by (cases h), hg.homes hput, fun z hz => ?_⟩
        rw [txH_in hD zs hz]
        exact ⟨hD, h0⟩
set_option maxRecDepth 100000 in
set_option maxHeartbeats 8000000 in
theorem txnwhole_law (Z : DK) (A0 : Option Addr) (n0 c0 : Nat) (z0 : List Int) (a1 a2 : Int) (A3 : Option Addr) (n3 c3 : Nat) (z3 : List Bool) (w : World) (hi : HasIr w w.heap.size A0 n0 z0) (h1 : -9223372036854775808 ≤ a1 ∧ a1 ≤ 9223372036854775807) (h2 : -9223372036854775808 ≤ a2 ∧ a2 ≤ 9223372036854775807) (ho : HasBo w w.heap.size A3 n3 z3) (hc3 : n3 ≤ c3 ∧ c3 ≤ maxLen) :
    Calls Try.prog 7 #[.slice A0 n0 c0, .int .i64 a1, .int .i64 a2, .slice A3 n3 c3] w (RetTrue w) := by
  have CB := Lib.hid (fun W => begun7_any Z W)
  have HI := Lib.hid hi
  have HO := Lib.hid ho
  have L1 := Lib.hid hi.1
  by_cases hl1 : 40 < n0
  · have hl : (40 : Int) < (n0 : Int) := by omega
    clear hi ho h1 h2 hc3
    go_enter Try.func7, Try.ntmps7
    go_wp2_with (first
      | (go_at_call 29; refine (CB.out _).mono ?_; rintro e w1 ⟨rfl, b1⟩
         have B1 := Lib.hid b1
         clear b1))
    go_ret
    exact ⟨rfl, B1.out⟩
  by_cases hl2 : 200 < n3
  · have hl : (200 : Int) < (n3 : Int) := by omega
    have hl' : ¬ (40 : Int) < (n0 : Int) := by omega
    clear hi ho h1 h2 hc3
    go_enter Try.func7, Try.ntmps7
    go_wp2_with (first
      | (go_at_call 29; refine (CB.out _).mono ?_; rintro e w1 ⟨rfl, b1⟩
         have B1 := Lib.hid b1
         clear b1))
    go_ret
    exact ⟨rfl, B1.out⟩
  have hl1' : ¬ (40 : Int) < (n0 : Int) := by omega
  have hl2' : ¬ (200 : Int) < (n3 : Int) := by omega
  have hn0 : n0 ≤ 40 := by omega
  have HC3 := Lib.hid hc3
  have CM : Hid (∀ W, Below w.heap.size w W → Calls Try.prog 30 #[.int .i64 128, .int .i64 60] W (MadeUp Z w 128 60)) := Lib.hid (fun W hb => made_any Z w W hb 128 60 (by omega) (by omega) (by omega) (by omega) (by omega))
  have CPZ : Hid (∀ z W, z ∈ z0 → Calls Try.prog 12 #[.int .i64 z, .int .i64 66] W fun e w' => e = .returned (.int .i64 (plN z 66 : Nat)) ∧ W = w') := Lib.hid (fun z W hz => place_is z 66 W (HI.out.2.1 z hz) (by omega) (by omega))
  have CPA := Lib.hid (fun W => place_any a1 60 W h1 (by omega) (by omega))
  have H2 := Lib.hid h2
  obtain ⟨D, hD⟩ : ∃ D, fullL [1] = D := ⟨_, rfl⟩
  have l1 : D.length = 512 := by rw [← hD]; exact fullL_len _
  have d0 : D[0]? = some 1 := by rw [← hD]; rfl
  have FC : Hid (∀ W A n c, HasB W W.heap.size A n [1] → Calls Try.prog 24 #[.slice A n c] W (RetB W D)) := Lib.hid (fun W A n c h => by have := full_any A n c [1] W W.heap.size h (Nat.le_refl _); rwa [hD] at this)
  have LD := Lib.hid l1
  have D0 := Lib.hid d0
  have SZ : Hid ((strB D).size ≠ 0) := Lib.hid (by rw [strB_size]; omega)
  have PLT : Hid (∀ z, plN z 66 < 66) := Lib.hid (fun z => plN_lt z (by omega))
  clear hi ho h1 h2 hc3 hD l1 d0
  go_enter Try.func7, Try.ntmps7
  go_upto_region 11 with (first
    | (go_at_call 29; refine (CB.out _).mono ?_; rintro e w1 ⟨rfl, b1⟩
       have B1 := Lib.hid b1
       clear b1)
    | (go_at_call 30; refine (CM.out _ B1.out).mono ?_; rintro e w2 ⟨gd, g, gp, p, j, rfl, u2, s2, pw2⟩
       have U2 := Lib.hid u2
       have S2 := Lib.hid s2
       have PW2 := Lib.hid pw2
       clear u2 s2 pw2)
    | (go_at_call 31; refine (begin_up U2.out S2.out (by omega)).mono ?_; rintro e w3 ⟨gt, gm, rfl, t3, u3, hg3, hgm3, y3⟩
       have t3' : TO w3 gt g 0 66 0 (whL (strB D) []) (fun k => k = gm) := t3
       have T3 := Lib.hid t3'
       have u3' : UpB Z w w3 g gd gp 128 p j (fun k => k = gt ∨ k = gm) := u3.less (fun k hk => .inr hk)
       have U3 := Lib.hid u3'
       have ch := thomes_any t3' u3' (S2.out.jok (by omega)).2.1
       rw [(S2.out.homes).1] at ch
       have CH : Hid (Calls Try.prog 32 #[.pointer (some ⟨gt, 0, none⟩)] w3 (RetV2 w3 (.int .i64 66))) := Lib.hid ch
       clear t3 t3' u3 u3' y3 ch)
    | (go_at_call 32; refine CH.out.mono ?_; rintro e w4 ⟨rfl, b4⟩
       have T4 := Lib.hid (T3.out.below b4)
       have U4 := Lib.hid (U3.out.below b4)
       clear b4))
  go_loopw [14] (fun x wr => ∃ (k q : Nat) (M : Nat → Prop), k ≤ n0 ∧ x = .int .i64 (k : Int) ∧ TO wr gt g 0 66 q (whL (strB D) (z0.take k)) M ∧ q ≤ k ∧ UpB Z w wr g gd gp 128 p j (fun k => k = gt ∨ M k)) (fun x _ => n0 - (Go.RowKit.intOf x).toNat)
  case atStart => exact ⟨0, 0, _, Nat.zero_le _, rfl, by rw [List.take_zero]; exact T4.out, Nat.le_refl _, U4.out⟩
  case round =>
    obtain ⟨k, q, M, hk, rfl, qt, qq, qu⟩ := hrel
    obtain ⟨W1, rfl⟩ : ∃ W, W = wr := ⟨_, rfl⟩
    have QT := Lib.hid qt
    have QU := Lib.hid qu
    clear qt qu
    by_cases hlt : k < n0
    · obtain ⟨g0, o0, rfl, hg0, hcl⟩ := HI.out.2.2 (by omega)
      obtain ⟨z, hz⟩ : ∃ z, z0[k]? = some z := ⟨_, List.getElem?_eq_getElem (by rw [← L1.out]; exact hlt)⟩
      have k1 : W1.cell? ⟨g0, o0 + k, none⟩ = some (.int .i64 z) := (QU.out.up.bel.cell hg0).trans (hcl k z hz)
      have HZM := Lib.hid (List.mem_of_getElem? hz)
      have TS : Hid (whL (strB D) (z0.take (k + 1)) = (whL (strB D) (z0.take k)).set (plN z 66) (strB D)) := Lib.hid (by rw [List.take_add_one, hz]; exact whL_snoc _ _ _)
      have CNT : Hid ((frK (whL (strB D) (z0.take k)) 66).length < 40) := Lib.hid (by
        have h1 := whL_cnt SZ.out (z0.take k)
        rw [List.length_take] at h1
        omega)
      clear hcl hz
      go_wp2_with (first
        | (go_at_call 12; refine (CPZ.out _ _ HZM.out).mono ?_; rintro e w5 ⟨rfl, rfl⟩)
        | (go_at_call 24; refine (FC.out _ _ _ _ (HasB.row W1 [1] 5)).mono ?_; rintro e w5 ⟨A5, n5, c5, rfl, own5, b5⟩
           have b5' : Below W1.heap.size W1 w5 := ((Below.refl _ _).alloc (Nat.le_refl _) _).trans (b5.mono (by simp))
           have hn5 := own5.len
           rw [LD.out] at hn5
           subst hn5
           have O5 := Lib.hid own5
           have T5 := Lib.hid (QT.out.below b5')
           have U5 := Lib.hid (QU.out.below b5')
           clear own5 b5 b5')
        | (go_at_call 33; refine (write_up U5.out S2.out (by omega) T5.out (.inl rfl) (fun k hk => .inr hk) (plN z 66) (PLT.out z) _ _ D O5.out.x.has LD.out O5.out.x.caps.1 (.inr CNT.out) (by omega)).mono ?_; rintro e w6 ⟨rfl, M6, t6, u6, hM6, y6⟩
           have t6' : TO w6 gt g 0 66 (q + 1) ((whL (strB D) (z0.take k)).set (plN z 66) (strB D)) M6 := t6
           rw [← TS.out] at t6'
           have T6 := Lib.hid t6'
           have U6 : Hid (UpB Z w w6 g gd gp 128 p j (fun k => k = gt ∨ M6 k)) := Lib.hid (u6.less (fun k hk => hk.elim (fun h => .inl (.inl h)) .inr))
           clear t6 t6' u6 hM6 y6))
      go_roundw
      case rel => exact ⟨k + 1, q + 1, M6, by omega, by go_num, T6.out, by omega, U6.out⟩
      case measure => simp [Go.RowKit.intOf]; omega
    · obtain rfl : k = n0 := by omega
      have hfull : z0.take k = z0 := by rw [L1.out]; exact List.take_length
      have qt := QT.out
      rw [hfull] at qt
      have QT' := Lib.hid qt
      clear QT qt hfull T3 T4 U3 U4
      go_upto_region 16 with (first
        | (go_at_call 12; refine (CPA.out _).mono ?_; rintro e w5 ⟨⟨at1, hat1, rfl⟩, rfl⟩)
        | (go_at_call 17; refine (QU.out.arm (S2.out.jok (by omega)).2.1 (at1 : Int) a2 (by omega) H2.out).mono ?_; rintro e w6 ⟨rfl, u6, y6⟩
           have U6 := Lib.hid u6
           have T6 := Lib.hid (QT'.out.only y6 (fun h => h (.inl rfl)) (fun k hk h => h (.inr hk)))
           have SA6 := Lib.hid (S2.out.sa.arm (at1 : Int) a2 (by omega))
           clear u6 y6))
      obtain ⟨P, hP⟩ : ∃ P : Pt, (⟨p.m.armM (at1 : Int) a2, p.e⟩ : Pt) = P := ⟨_, rfl⟩
      have hPw : P.m.powers = 0 := by rw [← hP]; exact PW2.out
      rw [hP] at U6 SA6
      have PKG := Lib.hid (wh_pkg SA6.out LD.out D0.out z0 (by rw [← L1.out]; exact hn0))
      obtain ⟨b1, b2, b3, b4, b5, b6, b7, b8, b9, b10, b11, b12, b13, b14, b15⟩ := SA6.out.facts (by omega)
      have CNT := whL_cnt SZ.out z0
      have hz0n : z0.length ≤ 40 := by rw [← L1.out]; exact hn0
      have CC0 := tcommit_new T6.out U6.out (.inl rfl) b12 (by omega) (by rw [b2, b4]; exact b7) (by rw [b3]; omega) (by rw [b3]) (by omega) (by omega)
      have hcp := cmt_powers P 128 j (tPu (whL (strB D) z0) 66)
      obtain ⟨C, hC⟩ : ∃ C, cmt P 128 j (tPu (whL (strB D) z0) 66) = C := ⟨_, rfl⟩
      rw [hC] at PKG CC0 hcp
      have CC := Lib.hid CC0
      have PWC : Hid (C.p.m.powers = 0) := Lib.hid (hcp.trans hPw)
      clear b1 b2 b3 b4 b5 b6 b7 b8 b9 b10 b11 b12 b13 b14 b15 CNT CC0 hcp hC hPw hP
      have HKB : Hid (∀ W, Below w.heap.size w W → ∀ S : Nat → Prop, (∀ k, S k → w.heap.size ≤ k) → HasNo W S A3 n3 z3) := Lib.hid (fun W hb S hS => (HO.out.only (S := fun _ => False) (Only.of_below hb (Nat.le_refl _)) (Nat.le_refl _) (fun _ _ h => h)).outside hb.size (fun k hk hs => absurd (hS k hs) (by omega)))
      have hc31 : n3 ≤ c3 := HC3.out.1
      rcases PKG.out with ⟨pe, po, pa⟩ | ⟨pe, po, pa⟩
      · have PE := Lib.hid pe
        have PO := Lib.hid po
        have PA := Lib.hid pa
        clear PKG pe po pa
        go_upto_region 22 with (first
          | (go_at_call 34; refine CC.out.mono ?_; rintro e w7 ⟨he7, z7, u7, y7⟩
             rw [PE.out] at he7
             subst he7
             have U7 := Lib.hid u7
             clear z7 u7 y7)
          | (go_at_call 18; refine (U7.out.dead PA.out.1).mono ?_; rintro e w8 ⟨he8, b8⟩
             rw [PO.out] at he8
             subst he8
             have U8 := Lib.hid (U7.out.below b8)
             clear b8)
          | (go_at_call 22; refine (U8.out.disk.powerA PA.out (by rw [PWC.out]; omega) A3 n3 c3 z3 (fun S hS _ => HKB.out _ U8.out.up.bel S hS) hc31 (by omega)).mono ?_; rintro e w9 ⟨rfl, ⟨m9, f9, b9, q9, k9, ⟨bv, T9, H9, hbv, r9, hb9⟩, pw9⟩, y9⟩
             have B9 : Hid (OnB Z w w9 gd 128 (⟨m9, 0⟩ : Pt).m (fun k => k = gt ∨ M k)) := Lib.hid b9
             have DS9 := Lib.hid (r9.ds q9 k9)
             have HB9 := Lib.hid hb9
             have HBV := Lib.hid hbv
             clear b9 q9 k9 r9 hb9 pw9 y9 hbv)
          | (go_at_call 15; refine (B9.out.open_ DS9.out (by omega)).mono ?_; rintro e w10 ⟨g10, gp10, p10, j10, rfl, u10, s10, _, _, y10⟩
             have U10 := Lib.hid u10
             have S10 := Lib.hid s10
             clear u10 s10 y10))
        cases bv
        · exact absurd HBV.out (by simp)
        · go_upto_region 24 with fail
          go_loopw [17, 18, 19] (fun so al x wr => ∃ k2 : Nat, k2 ≤ k ∧ so = .bool (decide (0 < k2) && true) ∧ al = .bool (decide (k2 = 0) || true) ∧ x = .int .i64 (k2 : Int) ∧ UpB Z w wr g10 gd gp10 128 p10 j10 (fun k => k = gt ∨ M k)) (fun _ _ x _ => k - (Go.RowKit.intOf x).toNat)
          case atStart => exact ⟨0, Nat.zero_le _, by simp, by simp, rfl, U10.out⟩
          case round =>
            obtain ⟨k2, hk2, rfl, rfl, rfl, qu2⟩ := hrel
            obtain ⟨W2, rfl⟩ : ∃ W, W = wr := ⟨_, rfl⟩
            have QU2 := Lib.hid qu2
            clear qu2
            by_cases hlt2 : k2 < k
            · obtain ⟨g0, o0, rfl, hg0, hcl⟩ := HI.out.2.2 (by omega)
              obtain ⟨z, hz⟩ : ∃ z, z0[k2]? = some z := ⟨_, List.getElem?_eq_getElem (by rw [← L1.out]; exact hlt2)⟩
              have k12 : W2.cell? ⟨g0, o0 + k2, none⟩ = some (.int .i64 z) := (QU2.out.up.bel.cell hg0).trans (hcl k2 z hz)
              have HZM2 := Lib.hid (List.mem_of_getElem? hz)
              have HB12 := Lib.hid (HB9.out z (List.mem_of_getElem? hz))
              have CR := Lib.hid (QU2.out.read S10.out (by omega) (plN z 66) (PLT.out z))
              clear hcl hz
              by_cases h00 : k2 = 0
              · subst h00
                have k12' : W2.cell? ⟨g0, o0, none⟩ = some (.int .i64 z) := k12
                have e1 : (decide (0 < 0) && true) = false := by simp
                have e2 : (decide (0 = 0) || true) = true := by simp
                rw [e1, e2]
                clear e1 e2
                go_upto_region 29 with (first
                  | (go_at_call 12; refine (CPZ.out _ _ HZM2.out).mono ?_; rintro e w12 ⟨rfl, rfl⟩)
                  | (go_at_call 28; refine CR.out.mono ?_; rintro e w13 ⟨A13, q13, c13, rfl, x13, u13, y13⟩
                     have hq13 := x13.len
                     rw [HB12.out.1] at hq13
                     subst hq13
                     obtain ⟨g13, rfl, _, _, hc13⟩ := x13.head (by omega)
                     have k13 : w13.cell? ⟨g13, 0, none⟩ = some (.int .u8 1) := hc13 0 _ HB12.out.2
                     have U13 := Lib.hid u13
                     clear x13 u13 y13 hc13)
                  | fail)
                go_quiet (fail)
                go_wp2_with fail
                go_roundw
                case rel => exact ⟨0 + 1, by omega, by simp, by simp, by go_num, U13.out.below (W' := _) ⟨rfl, rfl, rfl, Nat.le_refl _, fun _ _ => rfl⟩⟩
                case measure => simp [Go.RowKit.intOf]; omega
              · have e1 : (decide (0 < k2) && true) = true := by simp <;> omega
                have e2 : (decide (k2 = 0) || true) = true := by simp [h00]
                rw [e1, e2]
                clear e1 e2
                go_upto_region 29 with (first
                  | (go_at_call 12; refine (CPZ.out _ _ HZM2.out).mono ?_; rintro e w12 ⟨rfl, rfl⟩)
                  | (go_at_call 28; refine CR.out.mono ?_; rintro e w13 ⟨A13, q13, c13, rfl, x13, u13, y13⟩
                     have hq13 := x13.len
                     rw [HB12.out.1] at hq13
                     subst hq13
                     obtain ⟨g13, rfl, _, _, hc13⟩ := x13.head (by omega)
                     have k13 : w13.cell? ⟨g13, 0, none⟩ = some (.int .u8 1) := hc13 0 _ HB12.out.2
                     have U13 := Lib.hid u13
                     clear x13 u13 y13 hc13)
                  | fail)
                go_quiet (fail)
                go_wp2_with fail
                go_roundw
                case rel => exact ⟨k2 + 1, by omega, by simp, by simp, by go_num, U13.out.below (W' := _) ⟨rfl, rfl, rfl, Nat.le_refl _, fun _ _ => rfl⟩⟩
                case measure => simp [Go.RowKit.intOf]; omega
            · obtain rfl : k2 = k := by omega
              by_cases h00 : k2 = 0
              · subst h00
                have e1 : (decide (0 < 0) && true) = false := by simp
                have e2 : (decide (0 = 0) || true) = true := by simp
                rw [e1, e2]
                clear e1 e2
                go_wp2_with fail
                go_ret
                exact ⟨rfl, QU2.out.up.bel⟩
              · have e1 : (decide (0 < k2) && true) = true := by simp <;> omega
                have e2 : (decide (k2 = 0) || true) = true := by simp [h00]
                have hpos : (0 : Int) < (k2 : Int) := by omega
                have HP := Lib.hid hpos
                rw [e1, e2]
                clear e1 e2
                go_wp2_with fail
                go_ret
                refine ⟨?_, QU2.out.up.bel⟩
                first
                  | rfl
                  | (show Ending.returned (.bool (decide (0 < k2))) = _
                     rw [decide_eq_true (show 0 < k2 by have := HP.out; omega)])
      · have PE := Lib.hid pe
        have PO := Lib.hid po
        have PA := Lib.hid pa
        clear PKG pe po pa
        go_upto_region 22 with (first
          | (go_at_call 34; refine CC.out.mono ?_; rintro e w7 ⟨he7, z7, u7, y7⟩
             rw [PE.out] at he7
             subst he7
             have U7 := Lib.hid u7
             clear z7 u7 y7)
          | (go_at_call 18; refine (U7.out.dead PA.out.1).mono ?_; rintro e w8 ⟨he8, b8⟩
             rw [PO.out] at he8
             subst he8
             have U8 := Lib.hid (U7.out.below b8)
             clear b8)
          | (go_at_call 22; refine (U8.out.disk.powerA PA.out (by rw [PWC.out]; omega) A3 n3 c3 z3 (fun S hS _ => HKB.out _ U8.out.up.bel S hS) hc31 (by omega)).mono ?_; rintro e w9 ⟨rfl, ⟨m9, f9, b9, q9, k9, ⟨bv, T9, H9, hbv, r9, hb9⟩, pw9⟩, y9⟩
             have B9 : Hid (OnB Z w w9 gd 128 (⟨m9, 0⟩ : Pt).m (fun k => k = gt ∨ M k)) := Lib.hid b9
             have DS9 := Lib.hid (r9.ds q9 k9)
             have HB9 := Lib.hid hb9
             have HBV := Lib.hid hbv
             clear b9 q9 k9 r9 hb9 pw9 y9 hbv)
          | (go_at_call 15; refine (B9.out.open_ DS9.out (by omega)).mono ?_; rintro e w10 ⟨g10, gp10, p10, j10, rfl, u10, s10, _, _, y10⟩
             have U10 := Lib.hid u10
             have S10 := Lib.hid s10
             clear u10 s10 y10))
        cases bv
        · go_upto_region 24 with fail
          go_loopw [17, 18, 19] (fun so al x wr => ∃ k2 : Nat, k2 ≤ k ∧ so = .bool (decide (0 < k2) && false) ∧ al = .bool (decide (k2 = 0) || false) ∧ x = .int .i64 (k2 : Int) ∧ UpB Z w wr g10 gd gp10 128 p10 j10 (fun k => k = gt ∨ M k)) (fun _ _ x _ => k - (Go.RowKit.intOf x).toNat)
          case atStart => exact ⟨0, Nat.zero_le _, by simp, by simp, rfl, U10.out⟩
          case round =>
            obtain ⟨k2, hk2, rfl, rfl, rfl, qu2⟩ := hrel
            obtain ⟨W2, rfl⟩ : ∃ W, W = wr := ⟨_, rfl⟩
            have QU2 := Lib.hid qu2
            clear qu2
            by_cases hlt2 : k2 < k
            · obtain ⟨g0, o0, rfl, hg0, hcl⟩ := HI.out.2.2 (by omega)
              obtain ⟨z, hz⟩ : ∃ z, z0[k2]? = some z := ⟨_, List.getElem?_eq_getElem (by rw [← L1.out]; exact hlt2)⟩
              have k12 : W2.cell? ⟨g0, o0 + k2, none⟩ = some (.int .i64 z) := (QU2.out.up.bel.cell hg0).trans (hcl k2 z hz)
              have HZM2 := Lib.hid (List.mem_of_getElem? hz)
              have HB12 := Lib.hid (HB9.out z (List.mem_of_getElem? hz))
              have CR := Lib.hid (QU2.out.read S10.out (by omega) (plN z 66) (PLT.out z))
              clear hcl hz
              by_cases h00 : k2 = 0
              · subst h00
                have k12' : W2.cell? ⟨g0, o0, none⟩ = some (.int .i64 z) := k12
                have e1 : (decide (0 < 0) && false) = false := by simp
                have e2 : (decide (0 = 0) || false) = true := by simp
                rw [e1, e2]
                clear e1 e2
                go_upto_region 29 with (first
                  | (go_at_call 12; refine (CPZ.out _ _ HZM2.out).mono ?_; rintro e w12 ⟨rfl, rfl⟩)
                  | (go_at_call 28; refine CR.out.mono ?_; rintro e w13 ⟨A13, q13, c13, rfl, x13, u13, y13⟩
                     have hq13 := x13.len
                     rw [HB12.out.1] at hq13
                     subst hq13
                     obtain ⟨g13, rfl, _, _, hc13⟩ := x13.head (by omega)
                     have k13 : w13.cell? ⟨g13, 0, none⟩ = some (.int .u8 0) := hc13 0 _ HB12.out.2
                     have U13 := Lib.hid u13
                     clear x13 u13 y13 hc13)
                  | fail)
                go_quiet (fail)
                go_wp2_with fail
                go_roundw
                case rel => exact ⟨0 + 1, by omega, by simp, by simp, by go_num, U13.out.below (W' := _) ⟨rfl, rfl, rfl, Nat.le_refl _, fun _ _ => rfl⟩⟩
                case measure => simp [Go.RowKit.intOf]; omega
              · have e1 : (decide (0 < k2) && false) = false := by simp <;> omega
                have e2 : (decide (k2 = 0) || false) = false := by simp [h00]
                rw [e1, e2]
                clear e1 e2
                go_upto_region 29 with (first
                  | (go_at_call 12; refine (CPZ.out _ _ HZM2.out).mono ?_; rintro e w12 ⟨rfl, rfl⟩)
                  | (go_at_call 28; refine CR.out.mono ?_; rintro e w13 ⟨A13, q13, c13, rfl, x13, u13, y13⟩
                     have hq13 := x13.len
                     rw [HB12.out.1] at hq13
                     subst hq13
                     obtain ⟨g13, rfl, _, _, hc13⟩ := x13.head (by omega)
                     have k13 : w13.cell? ⟨g13, 0, none⟩ = some (.int .u8 0) := hc13 0 _ HB12.out.2
                     have U13 := Lib.hid u13
                     clear x13 u13 y13 hc13)
                  | fail)
                go_quiet (fail)
                go_wp2_with fail
                go_roundw
                case rel => exact ⟨k2 + 1, by omega, by simp, by simp, by go_num, U13.out.below (W' := _) ⟨rfl, rfl, rfl, Nat.le_refl _, fun _ _ => rfl⟩⟩
                case measure => simp [Go.RowKit.intOf]; omega
            · obtain rfl : k2 = k := by omega
              by_cases h00 : k2 = 0
              · subst h00
                have e1 : (decide (0 < 0) && false) = false := by simp
                have e2 : (decide (0 = 0) || false) = true := by simp
                rw [e1, e2]
                clear e1 e2
                go_wp2_with fail
                go_ret
                exact ⟨rfl, QU2.out.up.bel⟩
              · have e1 : (decide (0 < k2) && false) = false := by simp <;> omega
                have e2 : (decide (k2 = 0) || false) = false := by simp [h00]
                have hpos : (0 : Int) < (k2 : Int) := by omega
                have HP := Lib.hid hpos
                rw [e1, e2]
                clear e1 e2
                go_wp2_with fail
                go_ret
                refine ⟨?_, QU2.out.up.bel⟩
                first
                  | rfl
                  | (show Ending.returned (.bool (decide (0 < k2))) = _
                     rw [decide_eq_true (show 0 < k2 by have := HP.out; omega)])
        · go_upto_region 24 with fail
          go_loopw [17, 18, 19] (fun so al x wr => ∃ k2 : Nat, k2 ≤ k ∧ so = .bool (decide (0 < k2) && true) ∧ al = .bool (decide (k2 = 0) || true) ∧ x = .int .i64 (k2 : Int) ∧ UpB Z w wr g10 gd gp10 128 p10 j10 (fun k => k = gt ∨ M k)) (fun _ _ x _ => k - (Go.RowKit.intOf x).toNat)
          case atStart => exact ⟨0, Nat.zero_le _, by simp, by simp, rfl, U10.out⟩
          case round =>
            obtain ⟨k2, hk2, rfl, rfl, rfl, qu2⟩ := hrel
            obtain ⟨W2, rfl⟩ : ∃ W, W = wr := ⟨_, rfl⟩
            have QU2 := Lib.hid qu2
            clear qu2
            by_cases hlt2 : k2 < k
            · obtain ⟨g0, o0, rfl, hg0, hcl⟩ := HI.out.2.2 (by omega)
              obtain ⟨z, hz⟩ : ∃ z, z0[k2]? = some z := ⟨_, List.getElem?_eq_getElem (by rw [← L1.out]; exact hlt2)⟩
              have k12 : W2.cell? ⟨g0, o0 + k2, none⟩ = some (.int .i64 z) := (QU2.out.up.bel.cell hg0).trans (hcl k2 z hz)
              have HZM2 := Lib.hid (List.mem_of_getElem? hz)
              have HB12 := Lib.hid (HB9.out z (List.mem_of_getElem? hz))
              have CR := Lib.hid (QU2.out.read S10.out (by omega) (plN z 66) (PLT.out z))
              clear hcl hz
              by_cases h00 : k2 = 0
              · subst h00
                have k12' : W2.cell? ⟨g0, o0, none⟩ = some (.int .i64 z) := k12
                have e1 : (decide (0 < 0) && true) = false := by simp
                have e2 : (decide (0 = 0) || true) = true := by simp
                rw [e1, e2]
                clear e1 e2
                go_upto_region 29 with (first
                  | (go_at_call 12; refine (CPZ.out _ _ HZM2.out).mono ?_; rintro e w12 ⟨rfl, rfl⟩)
                  | (go_at_call 28; refine CR.out.mono ?_; rintro e w13 ⟨A13, q13, c13, rfl, x13, u13, y13⟩
                     have hq13 := x13.len
                     rw [HB12.out.1] at hq13
                     subst hq13
                     obtain ⟨g13, rfl, _, _, hc13⟩ := x13.head (by omega)
                     have k13 : w13.cell? ⟨g13, 0, none⟩ = some (.int .u8 1) := hc13 0 _ HB12.out.2
                     have U13 := Lib.hid u13
                     clear x13 u13 y13 hc13)
                  | fail)
                go_quiet (fail)
                go_wp2_with fail
                go_roundw
                case rel => exact ⟨0 + 1, by omega, by simp, by simp, by go_num, U13.out.below (W' := _) ⟨rfl, rfl, rfl, Nat.le_refl _, fun _ _ => rfl⟩⟩
                case measure => simp [Go.RowKit.intOf]; omega
              · have e1 : (decide (0 < k2) && true) = true := by simp <;> omega
                have e2 : (decide (k2 = 0) || true) = true := by simp [h00]
                rw [e1, e2]
                clear e1 e2
                go_upto_region 29 with (first
                  | (go_at_call 12; refine (CPZ.out _ _ HZM2.out).mono ?_; rintro e w12 ⟨rfl, rfl⟩)
                  | (go_at_call 28; refine CR.out.mono ?_; rintro e w13 ⟨A13, q13, c13, rfl, x13, u13, y13⟩
                     have hq13 := x13.len
                     rw [HB12.out.1] at hq13
                     subst hq13
                     obtain ⟨g13, rfl, _, _, hc13⟩ := x13.head (by omega)
                     have k13 : w13.cell? ⟨g13, 0, none⟩ = some (.int .u8 1) := hc13 0 _ HB12.out.2
                     have U13 := Lib.hid u13
                     clear x13 u13 y13 hc13)
                  | fail)
                go_quiet (fail)
                go_wp2_with fail
                go_roundw
                case rel => exact ⟨k2 + 1, by omega, by simp, by simp, by go_num, U13.out.below (W' := _) ⟨rfl, rfl, rfl, Nat.le_refl _, fun _ _ => rfl⟩⟩
                case measure => simp [Go.RowKit.intOf]; omega
            · obtain rfl : k2 = k := by omega
              by_cases h00 : k2 = 0
              · subst h00
                have e1 : (decide (0 < 0) && true) = false := by simp
                have e2 : (decide (0 = 0) || true) = true := by simp
                rw [e1, e2]
                clear e1 e2
                go_wp2_with fail
                go_ret
                exact ⟨rfl, QU2.out.up.bel⟩
              · have e1 : (decide (0 < k2) && true) = true := by simp <;> omega
                have e2 : (decide (k2 = 0) || true) = true := by simp [h00]
                have hpos : (0 : Int) < (k2 : Int) := by omega
                have HP := Lib.hid hpos
                rw [e1, e2]
                clear e1 e2
                go_wp2_with fail
                go_ret
                refine ⟨?_, QU2.out.up.bel⟩
                first
                  | rfl
                  | (show Ending.returned (.bool (decide (0 < k2))) = _
                     rw [decide_eq_true (show 0 < k2 by have := HP.out; omega)])
end Go.Proofs.Ythfmkdeglceppaa
