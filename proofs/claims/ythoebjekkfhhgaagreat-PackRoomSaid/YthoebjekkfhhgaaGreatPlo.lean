/-
  Own work.
-/
import Derived.Test.YthoebjekkfhhgaaGreatCp9
import Derived.Test.YthoebjekkfhhgaaGreatK3
set_option linter.unusedVariables false
set_option linter.unusedSimpArgs false
set_option maxRecDepth 100000
set_option maxHeartbeats 8000000
namespace Go.Proofs.YthoebjekkfhhgaaGreat
open Go.RowKit Go.Maps
structure RecM where
 k : Nat
 at_ : Nat
 key : List UInt8
 b : List UInt8
def RecM.len (r : RecM) : Nat := r.b.length + 46
def wtO (k : Nat) : Option RecM -> Nat
 | some r => if r.k = k then r.len else 0
 | none => 0
def sumK (os : List (Option RecM)) (k : Nat) : Nat := (os.map (wtO k)).sum
structure RecM.In (P : Nat -> PkM) (r : RecM) : Prop where
 k : r.k < 64
 s : (P r.k).s ≠ 0
 at_ : r.at_ + r.len <= (P r.k).d.length
 d : ((P r.k).d.drop r.at_).take r.len = frmL r.key r.b
 key : r.key.length = 32
 b : r.b.length <= 4200
structure RecsOK (P : Nat -> PkM) (os : List (Option RecM)) : Prop where
 inb : ∀ r, some r ∈ os -> r.In P
 sum : ∀ k, k < 64 -> (P k).v = sumK os k
theorem sum_erase {k : Nat} : ∀ {os : List (Option RecM)} {i : Nat} {r : RecM}, os[i]? = some (some r) -> sumK (os.eraseIdx i) k + wtO k (some r) = sumK os k
 | [], i, r, h => by simp at h
 | o :: os, 0, r, h => by
   simp only [List.getElem?_cons_zero, Option.some.injEq] at h
   subst h
   unfold sumK
   simp only [List.eraseIdx_cons_zero, List.map_cons, List.sum_cons]
   omega
 | o :: os, i + 1, r, h => by
   have ih := sum_erase (k := k) (os := os) (i := i) (r := r) (by simpa using h)
   unfold sumK at ih ⊢
   simp only [List.eraseIdx_cons_succ, List.map_cons, List.sum_cons]
   omega
theorem sumK_mem {k : Nat} {r : RecM} : ∀ {os : List (Option RecM)}, some r ∈ os -> wtO k (some r) <= sumK os k
 | [], h => by simp at h
 | o :: os, h => by
   unfold sumK
   simp only [List.map_cons, List.sum_cons]
   rcases List.mem_cons.1 h with h | h
   · rw [h]; omega
   · have := sumK_mem (k := k) h
     unfold sumK at this
     omega
theorem sumK_app (os : List (Option RecM)) (r : RecM) (k : Nat) : sumK (os ++ [some r]) k = sumK os k + wtO k (some r) := by
 unfold sumK
 simp
theorem RecsOK.nil : RecsOK (fun _ => .z) [] := ⟨fun r h => by simp at h, fun k _ => rfl⟩
theorem RecM.In.up {P P' : Nat -> PkM} {r : RecM} (h : r.In P) (hs : (P' r.k).s ≠ 0) (hd : ∃ t, (P' r.k).d = (P r.k).d ++ t) : r.In P' := by
 obtain ⟨t, ht⟩ := hd
 refine ⟨h.k, hs, by rw [ht, List.length_append]; have := h.at_; omega, ?_, h.key, h.b⟩
 rw [ht, List.drop_append_of_le_length (by have := h.at_; omega), List.take_append_of_le_length (by rw [List.length_drop]; have := h.at_; omega)]
 exact h.d
theorem RecsOK.old {P : Nat -> PkM} {os : List (Option RecM)} (a : RecsOK P os) {k : Nat} (hk : k < 64) (h0 : (P k).s ≠ 0) (key b : List UInt8) (hkey : key.length = 32) (hb : b.length <= 4200) :
 RecsOK (updP P k ⟨(P k).s, (P k).d ++ frmL key b, (P k).v + (b.length + 46)⟩) (os ++ [some ⟨k, (P k).d.length, key, b⟩]) := by
 have fl := frmL_len key b hkey
 refine ⟨fun r hr => ?_, fun j hj => ?_⟩
 · rcases List.mem_append.1 hr with h | h
   · have i := a.inb r h
     refine i.up ?_ ?_
     · unfold updP
       split
       · exact h0
       · exact i.s
     · unfold updP
       split
       · next e => rw [e]; exact ⟨_, rfl⟩
       · exact ⟨[], by simp⟩
   · simp only [List.mem_singleton, Option.some.injEq] at h
     subst h
     refine ⟨hk, ?_, ?_, ?_, hkey, hb⟩
     · unfold updP; rw [if_pos rfl]; exact h0
     · unfold updP
       rw [if_pos rfl]
       show (P k).d.length + (b.length + 46) <= ((P k).d ++ frmL key b).length
       rw [List.length_append, fl]; omega
     · unfold updP
       rw [if_pos rfl]
       show (((P k).d ++ frmL key b).drop (P k).d.length).take (b.length + 46) = frmL key b
       rw [List.drop_left, List.take_of_length_le (by rw [fl]; omega)]
 · rw [sumK_app, <- a.sum j hj]
   unfold updP
   by_cases e : j = k
   · subst e
     rw [if_pos rfl]
     show (P j).v + _ = (P j).v + (if j = j then _ else 0)
     rw [if_pos rfl]; rfl
   · rw [if_neg e]
     show _ = _ + (if k = j then _ else 0)
     rw [if_neg (fun h => e h.symm)]; rfl
theorem RecsOK.new {P : Nat -> PkM} {os : List (Option RecM)} (a : RecsOK P os) {k s : Nat} (hk : k < 64) (h0 : (P k).s = 0) (hz : (P k).v = 0) (hs : s ≠ 0) (key b : List UInt8) (hkey : key.length = 32) (hb : b.length <= 4200) :
 RecsOK (updP P k ⟨s, frmL key b, b.length + 46⟩) (os ++ [some ⟨k, 0, key, b⟩]) := by
 have fl := frmL_len key b hkey
 refine ⟨fun r hr => ?_, fun j hj => ?_⟩
 · rcases List.mem_append.1 hr with h | h
   · have i := a.inb r h
     have hne : r.k ≠ k := fun e => i.s (by rw [e]; exact h0)
     refine i.up ?_ ?_
     · unfold updP
       rw [if_neg hne]
       exact i.s
     · unfold updP
       rw [if_neg hne]
       exact ⟨[], by simp⟩
   · simp only [List.mem_singleton, Option.some.injEq] at h
     subst h
     refine ⟨hk, ?_, ?_, ?_, hkey, hb⟩
     · unfold updP; rw [if_pos rfl]; exact hs
     · unfold updP
       rw [if_pos rfl]
       show 0 + (b.length + 46) <= (frmL key b).length
       rw [fl]; omega
     · unfold updP
       rw [if_pos rfl]
       show ((frmL key b).drop 0).take (b.length + 46) = frmL key b
       rw [List.drop_zero, List.take_of_length_le (by rw [fl]; omega)]
 · rw [sumK_app, <- a.sum j hj]
   unfold updP
   by_cases e : j = k
   · subst e
     rw [if_pos rfl, hz]
     show _ = 0 + (if j = j then _ else 0)
     rw [if_pos rfl, Nat.zero_add]; rfl
   · rw [if_neg e]
     show _ = _ + (if k = j then _ else 0)
     rw [if_neg (fun h => e h.symm)]; rfl
def TKP (F : Nat -> List UInt8) (P : Nat -> PkM) : Prop := ∀ x, tkB (F 1) x = true ↔ x < 4 \/ ∃ k, k < 64 /\ (P k).s ≠ 0 /\ (P k).s <= x /\ x < (P k).s + 16
theorem RowP.tkp {h m : Nat} {F : Nat -> List UInt8} {P : Nat -> PkM} (a : RowP h m F P) : TKP F P := fun x => by
 rw [a.tk x, decide_eq_true_iff]
 have m64 := a.m64
 constructor
 · intro hx
   by_cases h4 : x < 4
   · exact .inl h4
   · refine .inr ⟨(x - 4) / 16, by omega, ?_⟩
     rw [a.lo _ (by omega)]
     omega
 · rintro (h | ⟨k, hk, h0, h1, h2⟩)
   · omega
   · by_cases hkm : k < m
     · rw [a.lo k hkm] at h1 h2; omega
     · exact absurd (a.no k (by omega) hk) h0
theorem cntF_congr {b b' : List UInt8} (h : ∀ x, tkB b x = tkB b' x) : ∀ n, cntF b n = cntF b' n
 | 0 => rfl
 | n + 1 => by rw [cntF, cntF, cntF_congr h n, h n]
section
variable {Z : DK} {w0 W W' : World} {g gd gp gt n V r q c q2 c2 : Nat} {F G C : Nat -> List UInt8} {E E' : Nat -> Prop} {P : Nat -> PkM}
theorem T3.left (a : T3 Z w0 W g gd gp gt n V r q c F C E) (hV : V <= 1073000000) (hc : c < 40) :
 Calls Tryz.prog 27 #[.pointer (some ⟨gt, 0, none⟩)] W fun en W' => en = .returned (.tuple #[.int .i64 ((cntF (F 1) (n - 2 - r) : Nat) : Int), .int .i64 0]) /\ T3 Z w0 W' g gd gp gt n V r q (c + 1) F C E /\ Only (fun k => ¬ E k) W W' := by
 obtain ⟨D, q', h, t, hd⟩ := a
 refine (left_sp (t.sp (.inr (by omega))) hV).mono ?_
 rintro en W' ⟨rfl, s', y⟩
 have e : ∀ i, upd F 1 (F 1) i = F i := fun i => by
  by_cases hi : i = 1
  · rw [hi, upd_same]
  · rw [upd_ne hi]
 exact ⟨rfl, (T3.of_sp h hd s').congr (fun i _ => e i) (fun _ _ => rfl), y⟩
def Dropd (h : Nat) (os : List (Option RecM)) (F : Nat -> List UInt8) (P : Nat -> PkM) : Prop := PInv h F P /\ RecsOK P os /\ TKP F P
theorem pdrop_rec (K : FK) (a : T3 Z w0 W g gd gp gt n V r q c F C E) (hV : V <= 1073000000) (hq : q + 4300 < 1073741824) (hc : c + 11 < 40) (pi : PInv (n - 2 - r) F P) {os os' : List (Option RecM)} (ro : RecsOK P os) (tk : TKP F P) {x : RecM} (hx : some x ∈ os) (hsub : ∀ y, some y ∈ os' -> some y ∈ os) (hsum : ∀ k, sumK os' k + wtO k (some x) = sumK os k) :
 Calls Tryz.prog 30 #[.pointer (some ⟨gt, 0, none⟩), .agg #[.int .i64 (x.k : Int), .int .i64 (x.at_ : Int), .int .i64 (x.len : Int)]] W fun en W' => en = .returned (.int .i64 0) /\ ∃ F' P', T3 Z w0 W' g gd gp gt n V r (q + 4300) (c + 12) F' C E /\ Dropd (n - 2 - r) os' F' P' /\ Only (fun k => ¬ E k) W W' := by
 have i := ro.inb x hx
 have o := pi.ok x.k i.k i.s
 have hh := pi.hh
 have l1 := pi.len 1 (by omega)
 have hv : (P x.k).v = sumK os' x.k + x.len := by
  have e : wtO x.k (some x) = x.len := if_pos rfl
  rw [ro.sum x.k i.k, <- hsum x.k, e]
 have hwt : ∀ j, j ≠ x.k -> wtO j (some x) = 0 := fun j hj => if_neg (fun h => hj h.symm)
 by_cases h0 : sumK os' x.k = 0
 · have ev : (P x.k).v = x.len := by rw [hv, h0, Nat.zero_add]
   have := pdrop_rel K a hV pi hq hc i.k i.s (at_ := x.at_) (by rw [ev]; show 46 <= _ + 46; omega) (by rw [ev]; exact i.at_)
   rw [ev] at this
   refine this.mono ?_
   rintro en W' ⟨he, t', y'⟩
   refine ⟨he, _, _, t', ⟨pi.rel i.k i.s, ⟨fun y hy => ?_, fun j hj => ?_⟩, fun z => ?_⟩, y'⟩
   · have iy := ro.inb y (hsub y hy)
     have hne : y.k ≠ x.k := fun e => by
      have := sumK_mem (k := x.k) hy
      have e2 : wtO x.k (some y) = y.len := if_pos e
      rw [e2, h0] at this
      have : 46 <= y.len := by show 46 <= _ + 46; omega
      omega
     exact iy.up (by unfold updP; rw [if_neg hne]; exact iy.s) (by unfold updP; rw [if_neg hne]; exact ⟨[], by simp⟩)
   · unfold updP
     by_cases e : j = x.k
     · rw [if_pos e, e, h0]; rfl
     · rw [if_neg e, ro.sum j hj, <- hsum j, hwt j e]; rfl
   · rw [rel_one (by rw [flipL_len]; exact l1), tk_free (n := 16) l1 hh.1 (pi.ext i.k i.s), Bool.and_eq_true, tk z, Bool.not_eq_true', Bool.and_eq_false_iff, decide_eq_false_iff_not, decide_eq_false_iff_not]
     have o1 := o.lo
     constructor
     · rintro ⟨h | ⟨k, hk, hs, h1, h2⟩, h3⟩
       · exact .inl h
       · refine .inr ⟨k, hk, ?_⟩
         have hne : k ≠ x.k := fun e => by rw [e] at h1 h2; omega
         unfold updP
         rw [if_neg hne]
         exact ⟨hs, h1, h2⟩
     · rintro (h | ⟨k, hk, hs, h1, h2⟩)
       · exact ⟨.inl h, by omega⟩
       · unfold updP at hs h1 h2
         by_cases hne : k = x.k
         · rw [if_pos hne] at hs; exact absurd rfl hs
         · rw [if_neg hne] at hs h1 h2
           have := pi.sep k x.k hk i.k hne hs i.s
           exact ⟨.inr ⟨k, hk, hs, h1, h2⟩, by omega⟩
 · refine (pdrop_st K a hV pi hq hc i.k i.s (by show 46 <= _ + 46; omega) i.at_ (by omega)).mono ?_
   rintro en W' ⟨he, t', y'⟩
   have hv2 : (P x.k).v - x.len = sumK os' x.k := by omega
   have vl := o.vl
   refine ⟨he, _, _, t', ⟨pi.dec i.k i.s (by omega) (by omega), ⟨fun y hy => ?_, fun j hj => ?_⟩, fun z => ?_⟩, y'⟩
   · have iy := ro.inb y (hsub y hy)
     refine iy.up ?_ ?_
     · unfold updP
       split
       · exact i.s
       · exact iy.s
     · unfold updP
       split
       · next e => rw [e]; exact ⟨[], by simp⟩
       · exact ⟨[], by simp⟩
   · unfold updP
     by_cases e : j = x.k
     · rw [if_pos e, e]; exact hv2
     · rw [if_neg e, ro.sum j hj, <- hsum j, hwt j e]; rfl
   · rw [tab_one l1, tk z]
     constructor
     · rintro (h | ⟨k, hk, h⟩)
       · exact .inl h
       · refine .inr ⟨k, hk, ?_⟩
         unfold updP
         split
         · next e => rw [e] at h; exact h
         · exact h
     · rintro (h | ⟨k, hk, h⟩)
       · exact .inl h
       · refine .inr ⟨k, hk, ?_⟩
         unfold updP at h
         split at h
         · next e => rw [e]; exact h
         · exact h
theorem Dropd.none {h : Nat} (a : Dropd h [] F P) : (∀ x, tkB (F 1) x = tkB B0 x) /\ (P 0).s = 0 := by
 obtain ⟨pi, ro, tk⟩ := a
 have hz : ∀ k, k < 64 -> (P k).s = 0 := fun k hk => by
  by_cases e : (P k).s = 0
  · exact e
  · have h1 := (pi.ok k hk e).v1
    have h2 := ro.sum k hk
    have : sumK [] k = 0 := rfl
    omega
 refine ⟨fun x => ?_, hz 0 (by omega)⟩
 rw [B0_tk, Bool.eq_iff_iff, tk x, decide_eq_true_iff]
 constructor
 · rintro (h | ⟨k, hk, hs, _⟩)
   · exact h
   · exact absurd (hz k hk) hs
 · exact .inl
end
def plV (k : Int) (n : Nat) : Nat := (k % (n : Int)).toNat
theorem plV_lt {k : Int} {n : Nat} (hn : 1 <= n) : plV k n < n := by
 have h1 := Int.emod_nonneg k (b := (n : Int)) (by omega)
 have h2 := Int.emod_lt_of_pos k (b := (n : Int)) (by omega)
 unfold plV
 omega
theorem place_val (k : Int) (n : Nat) (w : World) (hk : -9223372036854775808 <= k /\ k <= 9223372036854775807) (hn : 1 <= n) (hm : n <= 1073741824) :
 Calls Tryz.prog 8 #[.int .i64 k, .int .i64 (n : Int)] w fun e w' => e = .returned (.int .i64 (plV k n : Int)) /\ w = w' := by
 have h1 : -(n : Int) < k.tmod n := Int.lt_tmod_of_pos k (b := n) (by omega)
 have h2 : k.tmod n < n := Int.tmod_lt_of_pos k (by omega)
 have hq : k % (n : Int) = k.tmod n % (n : Int) := by
  conv => lhs; rw [<- Int.tmod_add_mul_tdiv k n]
  rw [Int.add_mul_emod_self_left]
 have hv : (plV k n : Int) = k % (n : Int) := by
  have h1 := Int.emod_nonneg k (b := (n : Int)) (by omega)
  unfold plV
  omega
 rw [hv, hq]
 clear hv hq
 obtain ⟨r, hr⟩ : ∃ r, k.tmod n = r := ⟨_, rfl⟩
 rw [hr] at h1 h2 ⊢
 have e1 : 0 <= r -> r % (n : Int) = r := fun h => Int.emod_eq_of_lt h h2
 have e2 : r < 0 -> r % (n : Int) = r + n := fun h => by
  rw [<- Int.add_emod_right]
  exact Int.emod_eq_of_lt (by omega) (by omega)
 have E1 := lH e1
 have E2 := lH e2
 clear e1 e2
 obtain ⟨v, hv⟩ : ∃ v, r % (n : Int) = v := ⟨_, rfl⟩
 rw [hv] at E1 E2 ⊢
 clear hv
 obtain ⟨h3, h4⟩ := hk
 go_enter Tryz.func8, Tryz.ntmps8
 go_wp2
 all_goals go_ret
 · exact ⟨by rw [E2.out (by omega)]; rfl, rfl⟩
 · exact ⟨by rw [E1.out (by omega)]; rfl, rfl⟩
theorem wrap8b (i : Nat) : IntKind.u8.wrap (i : Int) = ((UInt8.ofNat i).toNat : Int) := by
 rw [IntKind.wrap_u8, UInt8.toNat_ofNat']
 omega
def bodyL (i z : Nat) : List UInt8 := (List.range z).map (fun k => UInt8.ofNat (i + k))
theorem bodyL_len (i z : Nat) : (bodyL i z).length = z := by simp [bodyL]
def fillL (i z k : Nat) : List UInt8 := bodyL i k ++ zer (z - k)
theorem fillL_len {i z k : Nat} (h : k <= z) : (fillL i z k).length = z := by
 unfold fillL
 rw [List.length_append, bodyL_len]
 simp [zer]
 omega
theorem fillL_set {i z k : Nat} (h : k < z) : (fillL i z k).set k (UInt8.ofNat (i + k)) = fillL i z (k + 1) := by
 have e : zer (z - k) = 0 :: zer (z - (k + 1)) := by
  unfold zer
  rw [show z - k = (z - (k + 1)) + 1 by omega, List.replicate_succ]
 unfold fillL
 rw [e, List.set_append_right _ _ (by rw [bodyL_len]; exact Nat.le_refl _), bodyL_len, Nat.sub_self, List.set_cons_zero]
 unfold bodyL
 rw [List.range_succ, List.map_append, List.append_assoc]
 rfl
theorem body_any (i : Nat) (hi : i <= 1000) (x : Int) (hx : -9223372036854775808 <= x /\ x <= 9223372036854775807) (w : World) :
 Calls Tryz.prog 29 #[.int .i64 (i : Int), .int .i64 x] w fun e w' => ∃ g, e = .returned (.slice (some ⟨g, 0, none⟩) (plV x 4201) (plV x 4201)) /\ OwnB w' w.heap.size (.slice (some ⟨g, 0, none⟩) (plV x 4201) (plV x 4201)) (bodyL i (plV x 4201)) /\ Below w.heap.size w w' := by
 have hz : plV x 4201 < 4201 := plV_lt (by omega)
 have CP := lH (fun W => place_val x 4201 W hx (by omega) (by omega))
 obtain ⟨z, hzz⟩ : ∃ z, plV x 4201 = z := ⟨_, rfl⟩
 rw [hzz] at hz CP ⊢
 clear hzz
 go_enter Tryz.func29, Tryz.ntmps29
 go_wp2_with (first
  | (go_at_call 8; refine (CP.out _).mono ?_; rintro e w2 ⟨rfl, rfl⟩)
  | (at_make; refine wp_mk _ rfl _ _ rfl Tryz.underlying34 infoU8 w.heap.size _ _ _ _ z rfl rfl rfl rfl (by omega) (Nat.le_refl _) ?_; intro w3 own3 b3
     have O3 := lH own3
     have B3 := lH b3
     clear own3 b3))
 obtain ⟨g, hg⟩ : ∃ g, w.heap.size = g := ⟨_, rfl⟩
 have HG := lH hg
 simp only [hg] at O3 B3 ⊢
 clear hg
 go_loopw [6] (fun kv wr => ∃ k : Nat, k <= z /\ kv = .int .i64 (k : Int) /\ OwnB wr g (.slice (some ⟨g, 0, none⟩) z z) (fillL i z k) /\ Below g w wr) (fun kv _ => z - (Go.RowKit.intOf kv).toNat)
 case atStart => exact ⟨0, by omega, rfl, O3.out, B3.out⟩
 case round =>
  obtain ⟨k, hk, rfl, ow, bl⟩ := hrel
  have OW := lH ow
  have BL := lH bl
  by_cases hlt : k < z
  · obtain ⟨g', hg', _, _, hc⟩ := ow.head (by omega)
    injection hg' with hg'
    injection hg' with hg'
    subst hg'
    have m1 := hc k _ (List.getElem?_eq_getElem (by rw [fillL_len hk]; exact hlt))
    have f1 := ow.frozen k
    have hlt2 : (k : Int) < (z : Int) := by omega
    have e2 : IntKind.i64.wrap ((i : Int) + (k : Int)) = (i : Int) + (k : Int) := by rw [IntKind.wrap_i64]; omega
    clear hc ow bl
    go_wp2_with fail
    go_roundw
    case rel => exact ⟨k + 1, by omega, by go_num, by
     rw [<- fillL_set hlt]
     exact OW.out.set_ (by rw [show (i : Int) + (k : Int) = ((i + k : Nat) : Int) from by omega]; exact wrap8b (i + k)), BL.out.setCell (Nat.le_refl _) _⟩
    case measure => simp [Go.RowKit.intOf]; omega
  · obtain rfl : k = z := by omega
    have e : fillL i k k = bodyL i k := by unfold fillL; simp [zer]
    rw [e] at OW
    clear ow bl
    go_wp2_with fail
    go_ret
    exact ⟨g, rfl, by rw [HG.out]; exact OW.out, by rw [HG.out]; exact BL.out⟩
end Go.Proofs.YthoebjekkfhhgaaGreat
