/-
  Own work.
-/
import Derived.Test.YthoebjekkfhhgaaGreatJop
set_option linter.unusedVariables false
set_option linter.unusedSimpArgs false
namespace Go.Proofs.YthoebjekkfhhgaaGreat
open Go.RowKit
def upd (f : Nat -> List UInt8) (i : Nat) (s : List UInt8) : Nat -> List UInt8 := fun k => if k = i then s else f k
theorem upd_same (f : Nat -> List UInt8) (i : Nat) (s : List UInt8) : upd f i s i = s := by unfold upd; rw [if_pos rfl]
theorem upd_ne {f : Nat -> List UInt8} {i k : Nat} {s : List UInt8} (h : k ≠ i) : upd f i s k = f k := by unfold upd; rw [if_neg h]
theorem lst_strB (l : List UInt8) : lst (strB l) = l := by simp [lst, strB]
structure QP (p : Pt) (n : Nat) (f : Nat -> List UInt8) (W : Nat) : Prop where
 e : p.e = 0
 ok : p.m.Ok n
 on : p.m.off = false
 un : p.m.arms < 0
 wy : p.m.way < 0
 at_ : ∀ i, i < n -> lst (p.m.at_ i) = f i
 wr : p.m.wrote <= W
def Calm (m : RM) (n : Nat) : Prop := ∀ i, i < n -> (m.wt i).size = 0
section
variable {p : Pt} {n W : Nat} {f g : Nat -> List UInt8}
theorem QP.len (q : QP p n f W) {i : Nat} (hi : i < n) : (f i).length = 512 := by
 rw [<- q.at_ i hi]
 show (p.m.at_ i).size = 512
 unfold RM.at_
 split
 · have h : i < p.m.last.length := by rw [q.ok.nl]; exact hi
   refine q.ok.ls _ ?_
   rw [List.getD_eq_getElem?_getD, List.getElem?_eq_getElem h]
   exact List.getElem_mem h
 · rename_i hz
   have h : i < p.m.wait.length := by rw [q.ok.nw]; exact hi
   have hm : p.m.wait.getD i ⟨#[]⟩ ∈ p.m.wait := by
    rw [List.getD_eq_getElem?_getD, List.getElem?_eq_getElem h]
    exact List.getElem_mem h
   rcases q.ok.ws _ hm with h2 | h2
   · exact absurd h2 hz
   · exact h2
theorem QP.rE (q : QP p n f W) {i : Nat} (hi : i < n) : p.m.readE n (i : Int) = 0 := by
 unfold RM.readE
 rw [if_neg (by rw [q.on]; decide), if_neg (by omega)]
theorem QP.rd (q : QP p n f W) {i : Nat} (hi : i < n) : lst (p.m.readS n (i : Int)) = f i := by
 unfold RM.readS
 rw [if_pos (q.rE hi)]
 exact q.at_ i hi
theorem QP.live (q : QP p n f W) : p.m.readE n 0 = 0 := q.rE (i := 0) (by have := q.ok.n1; omega)
theorem QP.congr (q : QP p n f W) (h : ∀ i, i < n -> f i = g i) : QP p n g W := ⟨q.e, q.ok, q.on, q.un, q.wy, fun i hi => (q.at_ i hi).trans (h i hi), q.wr⟩
theorem QP.more {V : Nat} (q : QP p n f W) (h : W <= V) : QP p n f V := ⟨q.e, q.ok, q.on, q.un, q.wy, q.at_, Nat.le_trans q.wr h⟩
theorem QP.write (q : QP p n f W) (hW : W < 1073741824) {i : Nat} (hi : i < n) {s : List UInt8} (hs : s.length = 512) : QP (p.wr n (i : Int) s) n (upd f i s) (W + 1) := by
 have hwr := q.wr
 obtain ⟨h1, h2⟩ := RM.write_ok p.m n (i : Int) (strB s) q.on (by omega) hs q.un
 have ok' := Pt.wr_ok q.ok (by omega) (i : Int) s
 have hp : p.wr n (i : Int) s = ⟨{ p.m with wait := p.m.wait.set i (strB s), wrote := p.m.wrote + 1 }, 0⟩ := by
  unfold Pt.wr
  rw [if_pos q.e, h1, h2]
  rfl
 rw [hp] at ok' ⊢
 refine ⟨rfl, ok', q.on, q.un, q.wy, fun k hk => ?_, by show p.m.wrote + 1 <= W + 1; omega⟩
 have e1 : ({ p.m with wait := p.m.wait.set i (strB s), wrote := p.m.wrote + 1 } : RM).at_ k = if ((p.m.wait.set i (strB s)).getD k emp).size = 0 then p.m.last.getD k emp else (p.m.wait.set i (strB s)).getD k emp := rfl
 show lst (({ p.m with wait := p.m.wait.set i (strB s), wrote := p.m.wrote + 1 } : RM).at_ k) = _
 rw [e1, getD_set _ _ _ _ (by rw [q.ok.nw]; exact hi)]
 by_cases hik : i = k
 · subst hik
   rw [if_pos rfl, if_neg (by rw [strB_size]; omega), lst_strB, upd_same]
 · rw [if_neg hik, upd_ne (fun e => hik e.symm)]
   exact q.at_ k hk
theorem QP.flush (q : QP p n f W) : QP (p.fl n) n f W /\ Calm (p.fl n).m n := by
 have hg : p.m.goB = true := by unfold RM.goB; rw [decide_eq_true_iff]; have := q.un; omega
 have hm : p.m.goM = p.m := by unfold RM.goM; rw [if_pos q.un]
 have hp : p.fl n = ⟨p.m.flK n, 0⟩ := by
  unfold Pt.fl
  rw [if_pos q.e]
  unfold RM.flushM RM.flushE
  rw [q.on, hg, hm]
  rfl
 have ok' := Pt.fl_ok (p := p) q.ok
 have hw := Pt.fl_wrote p n
 have hwy : ∀ k, (p.m.flK k).off = p.m.off /\ (p.m.flK k).arms = p.m.arms /\ (p.m.flK k).way = p.m.way := by
  intro k
  induction k with
  | zero => exact ⟨rfl, rfl, rfl⟩
  | succ k ih =>
    rw [RM.flK_succ]
    unfold RM.flI
    split
    · exact ih
    · exact ih
 rw [hp] at ok' hw ⊢
 have hat := p.m.flK_at n q.ok n
 refine ⟨⟨rfl, ok', (hwy n).1.trans q.on, by rw [(hwy n).2.1]; exact q.un, by rw [(hwy n).2.2]; exact q.wy, fun k hk => ?_, by rw [hw]; exact q.wr⟩, fun k hk => ?_⟩
 · obtain ⟨h1, h2⟩ := hat k (Nat.le_refl _)
   have e1 : (p.m.flK n).at_ k = if ((p.m.flK n).wt k).size = 0 then (p.m.flK n).ls k else (p.m.flK n).wt k := rfl
   have e0 : p.m.at_ k = if (p.m.wt k).size = 0 then p.m.ls k else p.m.wt k := rfl
   show lst ((p.m.flK n).at_ k) = _
   rw [<- q.at_ k hk, e1, e0, h1, h2]
   by_cases hz : (p.m.wt k).size = 0
   · have hn : ¬ (k < n /\ (p.m.wt k).size ≠ 0) := fun h => h.2 hz
     simp only [if_neg hn, if_pos hz]
   · have hn : k < n /\ (p.m.wt k).size ≠ 0 := ⟨hk, hz⟩
     simp only [if_pos hn, if_neg hz]
     rw [if_pos (show emp.size = 0 from rfl)]
 · obtain ⟨_, h2⟩ := hat k (Nat.le_refl _)
   rw [h2]
   split
   · rfl
   · rename_i hn
     by_cases hz : (p.m.wt k).size = 0
     · exact hz
     · exact absurd ⟨hk, hz⟩ hn
theorem QP.new (n : Nat) (h1 : 32 <= n) (h2 : n <= 4096) : QP ⟨newM n, 0⟩ n (fun _ => zsec) 0 /\ Calm (newM n) n := by
 have hw : ∀ i, ((newM n).wait.getD i emp) = emp := fun i => by
  show (List.replicate n emp).getD i emp = emp
  rw [List.getD_eq_getElem?_getD, List.getElem?_replicate]
  split <;> rfl
 refine ⟨⟨rfl, newM_ok n h1 h2, rfl, by show (-1 : Int) < 0; decide, by show (-1 : Int) < 0; decide, fun i hi => ?_, Nat.le_refl _⟩, fun i hi => by show ((newM n).wait.getD i emp).size = 0; rw [hw]; rfl⟩
 have e1 : (newM n).at_ i = if ((newM n).wait.getD i emp).size = 0 then (newM n).last.getD i emp else (newM n).wait.getD i emp := rfl
 show lst ((newM n).at_ i) = zsec
 rw [e1, hw, if_pos (show emp.size = 0 from rfl)]
 show lst ((List.replicate n zeroS).getD i emp) = zsec
 rw [List.getD_eq_getElem?_getD, List.getElem?_replicate, if_pos hi]
 rfl
end
theorem numBe : ∀ (n v : Nat), v < 256 ^ n -> num (be n v) = v
 | 0, v, h => by
   have : v = 0 := by simpa using h
   subst this; rfl
 | n + 1, v, h => by
   rw [be, num_snoc, numBe n (v / 256) (by rw [Nat.pow_succ] at h; omega), UInt8.toNat_ofNat']
   omega
theorem sub_at {s : List UInt8} {p k : Nat} (j : Nat) : (sub s p k)[j]? = if j < k then s[p + j]? else none := by
 unfold sub
 rw [List.getElem?_take]
 split
 · rw [List.getElem?_drop]
 · rfl
theorem sub_over {s b : List UInt8} {p k : Nat} (h : p + b.length <= s.length) (hk : k = b.length) : sub (over s p b) p k = b := by
 subst hk
 apply List.ext_getElem?
 intro j
 rw [sub_at]
 split
 · rename_i hj
   rw [over_at h, if_pos ⟨by omega, by omega⟩, Nat.add_sub_cancel_left]
 · rename_i hj
   rw [List.getElem?_eq_none (by omega)]
theorem sub_off {s b : List UInt8} {p a k : Nat} (h : p + b.length <= s.length) (hd : a + k <= p \/ p + b.length <= a) : sub (over s p b) a k = sub s a k := by
 apply List.ext_getElem?
 intro j
 rw [sub_at, sub_at]
 split
 · rename_i hj
   rw [over_at h, if_neg (by omega)]
 · rfl
theorem over_over {s b c : List UInt8} {p : Nat} (h : p + b.length <= s.length) (hl : b.length = c.length) : over (over s p b) p c = over s p c := by
 apply List.ext_getElem?
 intro j
 rw [over_at (s := over s p b) (by rw [over_len h]; omega), over_at h, over_at (s := s) (b := c) (by omega)]
 split
 · rfl
 · rw [if_neg (by omega)]
theorem over_self {s : List UInt8} {p k : Nat} (h : p + k <= s.length) : over s p (sub s p k) = s := by
 have hl := sub_len h
 apply List.ext_getElem?
 intro j
 rw [over_at (by omega)]
 split
 · rw [sub_at, if_pos (by omega), show p + (j - p) = j by omega]
 · rfl
theorem sub_zero_take (s : List UInt8) (k : Nat) : sub s 0 k = s.take k := by unfold sub; rw [List.drop_zero]
theorem tagOf_of {s : List UInt8} {v : Nat} (h1 : sub s 0 8 = be 8 v) (h2 : sub s 504 8 = be 8 v) (hv : v < 18446744073709551616) : tagOf s = v := by
 unfold tagOf
 rw [h1, h2, if_pos rfl, numBe 8 v (by omega)]
theorem tagOf_zsec : tagOf zsec = 0 := by decide +kernel
theorem tagged_num {d : List UInt8} (hd : d.length = 512) {t : Nat} (ht : t < 9223372036854775808) : num (sub (tagged d t) 0 8) = 2 * t := by
 unfold tagged
 rw [sub_over (by rw [be_length]; omega) (by rw [be_length]), numBe 8 (2 * t) (by omega)]
theorem tagged_back {d : List UInt8} (hd : d.length = 512) (t : Nat) : over (tagged d t) 0 (d.take 8) = d := by
 unfold tagged
 rw [over_over (by rw [be_length]; omega) (by rw [be_length, List.length_take]; omega), <- sub_zero_take, over_self (by omega)]
structure ChsOk (h : Nat) (l : List Ch) : Prop where
 ne : l ≠ []
 n40 : l.length <= 40
 hm : ∀ c ∈ l, c.home < h /\ c.data.length = 512
 nd : (l.map Ch.home).Nodup
theorem hdr_parts (t h : Nat) (l : List Ch) (ok : ChsOk h l) (hh : h <= 4096) : ∀ k, k <= l.length ->
 sub (hdrK t l k) 0 8 = be 8 (2 * t + 1) /\ sub (hdrK t l k) 504 8 = be 8 (2 * t + 1) /\ sub (hdrK t l k) 8 2 = be 2 l.length /\
 ∀ q c, q < k -> l[q]? = some c -> sub (hdrK t l k) (16 + 12 * q) 4 = be 4 c.home /\ sub (hdrK t l k) (16 + 12 * q + 4) 8 = c.data.take 8
 | 0, _ => by
   have e : hdrK t l 0 = over (setTag zsec (2 * t + 1)) 8 (be 2 l.length) := rfl
   have l1 : (setTag zsec (2 * t + 1)).length = 512 := setTag_len zsec_len
   have l2 : (over zsec 0 (be 8 (2 * t + 1))).length = 512 := over_be zsec_len (by omega)
   rw [e]
   refine ⟨?_, ?_, ?_, fun q c hq => absurd hq (by omega)⟩
   · rw [sub_off (by rw [be_length]; omega) (.inl (by omega))]
     unfold setTag
     rw [sub_off (by rw [be_length]; omega) (.inl (by omega)), sub_over (by rw [be_length, zsec_len]; omega) (by rw [be_length])]
   · rw [sub_off (by rw [be_length]; omega) (.inr (by rw [be_length]; omega))]
     unfold setTag
     rw [sub_over (by rw [be_length]; omega) (by rw [be_length])]
   · rw [sub_over (by rw [be_length]; omega) (by rw [be_length])]
 | k + 1, hk => by
   obtain ⟨h1, h2, h3, h4⟩ := hdr_parts t h l ok hh k (by omega)
   have h40 := ok.n40
   have hlen : (hdrK t l k).length = 512 := hdrK_len t l k (by omega)
   obtain ⟨x, hx⟩ : ∃ x, l[k]? = some x := ⟨_, List.getElem?_eq_getElem (by omega)⟩
   have hgd : l.getD k ⟨0, []⟩ = x := by rw [List.getD_eq_getElem?_getD, hx]; rfl
   have hxd : x.data.length = 512 := (ok.hm x (List.mem_of_getElem? hx)).2
   have ht8 : (x.data.take 8).length = 8 := by rw [List.length_take]; omega
   rw [hdrK_succ, hgd]
   have l2 : (over (hdrK t l k) (16 + 12 * k) (be 4 x.home)).length = 512 := over_be hlen (by omega)
   have off : ∀ a w, a + w <= 16 + 12 * k \/ 16 + 12 * k + 12 <= a -> sub (over (over (hdrK t l k) (16 + 12 * k) (be 4 x.home)) (16 + 12 * k + 4) (x.data.take 8)) a w = sub (hdrK t l k) a w := by
    intro a w hd
    rw [sub_off (by omega) (by omega), sub_off (by rw [be_length]; omega) (by rw [be_length]; omega)]
   refine ⟨by rw [off 0 8 (by omega)]; exact h1, by rw [off 504 8 (by omega)]; exact h2, by rw [off 8 2 (by omega)]; exact h3, fun q c hq hc => ?_⟩
   by_cases hqk : q = k
   · subst hqk
     rw [hx] at hc
     injection hc with hc
     subst hc
     constructor
     · rw [sub_off (by omega) (.inl (by omega)), sub_over (by rw [be_length]; omega) (by rw [be_length])]
     · rw [sub_over (by omega) (by omega)]
   · obtain ⟨i1, i2⟩ := h4 q c (by omega) hc
     exact ⟨by rw [off _ 4 (by omega)]; exact i1, by rw [off _ 8 (by omega)]; exact i2⟩
section
variable {t h : Nat} {l : List Ch}
theorem hdr_tag (ok : ChsOk h l) (hh : h <= 4096) (ht : t < 9223372036854775807) : tagOf (hdr t l) = 2 * t + 1 := by
 obtain ⟨h1, h2, _, _⟩ := hdr_parts t h l ok hh l.length (Nat.le_refl _)
 exact tagOf_of h1 h2 (by omega)
theorem hdr_cnt (ok : ChsOk h l) (hh : h <= 4096) : num (sub (hdr t l) 8 2) = l.length := by
 obtain ⟨_, _, h3, _⟩ := hdr_parts t h l ok hh l.length (Nat.le_refl _)
 have := ok.n40
 show num (sub (hdrK t l l.length) 8 2) = _
 rw [h3, numBe 2 _ (by omega)]
theorem hdr_row (ok : ChsOk h l) (hh : h <= 4096) {q : Nat} {c : Ch} (hc : l[q]? = some c) : num (sub (hdr t l) (16 + 12 * q) 4) = c.home /\ sub (hdr t l) (16 + 12 * q + 4) 8 = c.data.take 8 := by
 obtain ⟨_, _, _, h4⟩ := hdr_parts t h l ok hh l.length (Nat.le_refl _)
 obtain ⟨i1, i2⟩ := h4 q c (List.getElem?_eq_some_iff.1 hc).1 hc
 have := (ok.hm c (List.mem_of_getElem? hc)).1
 exact ⟨by show num (sub (hdrK t l l.length) _ 4) = _; rw [i1, numBe 4 _ (by omega)], i2⟩
end
theorem anc_parts (s t p r : Nat) : sub (anc s t p r) 0 8 = be 8 s /\ sub (anc s t p r) 504 8 = be 8 s /\ sub (anc s t p r) 8 8 = be 8 t /\ sub (anc s t p r) 16 4 = be 4 p /\ sub (anc s t p r) 20 4 = be 4 r := by
 unfold anc
 have l1 : (setTag zsec s).length = 512 := setTag_len zsec_len
 have l2 : (over (setTag zsec s) 8 (be 8 t)).length = 512 := over_be l1 (by omega)
 have l3 : (over (over (setTag zsec s) 8 (be 8 t)) 16 (be 4 p)).length = 512 := over_be l2 (by omega)
 have l0 : (over zsec 0 (be 8 s)).length = 512 := over_be zsec_len (by omega)
 refine ⟨?_, ?_, ?_, ?_, ?_⟩
 · rw [sub_off (by rw [be_length]; omega) (by rw [be_length]; omega), sub_off (by rw [be_length]; omega) (by rw [be_length]; omega), sub_off (by rw [be_length]; omega) (by rw [be_length]; omega)]
   unfold setTag
   rw [sub_off (by rw [be_length]; omega) (by rw [be_length]; omega), sub_over (by rw [be_length, zsec_len]; omega) (by rw [be_length])]
 · rw [sub_off (by rw [be_length]; omega) (by rw [be_length]; omega), sub_off (by rw [be_length]; omega) (by rw [be_length]; omega), sub_off (by rw [be_length]; omega) (by rw [be_length]; omega)]
   unfold setTag
   rw [sub_over (by rw [be_length]; omega) (by rw [be_length])]
 · rw [sub_off (by rw [be_length]; omega) (by rw [be_length]; omega), sub_off (by rw [be_length]; omega) (by rw [be_length]; omega), sub_over (by rw [be_length]; omega) (by rw [be_length])]
 · rw [sub_off (by rw [be_length]; omega) (by rw [be_length]; omega), sub_over (by rw [be_length]; omega) (by rw [be_length])]
 · rw [sub_over (by rw [be_length]; omega) (by rw [be_length])]
theorem anc_tag (s t p r : Nat) (hs : s < 18446744073709551616) : tagOf (anc s t p r) = s := by
 obtain ⟨h1, h2, _⟩ := anc_parts s t p r
 exact tagOf_of h1 h2 hs
theorem anc_mark (s t p r : Nat) (hs : s < 18446744073709551616) (ht : t < 18446744073709551616) (hp : p < 4294967296) (hr : r < 4294967296) : markS (anc s t p r) = ⟨s, t, p, r⟩ := by
 obtain ⟨_, _, h3, h4, h5⟩ := anc_parts s t p r
 unfold markS
 rw [anc_tag s t p r hs, h3, h4, h5, numBe 8 t (by omega), numBe 4 p (by omega), numBe 4 r (by omega)]
theorem anc_good (n s t p r : Nat) (hs : s < 18446744073709551616) (hs1 : 1 <= s) (ht1 : 1 <= t) (ht : t < 4611686018427387904) (hpr : p < r) (hr : 8 <= r) (hr2 : r <= 1024) (hn : r + 10 <= n) : markB n (anc s t p r) = true := by
 obtain ⟨_, _, h3, h4, h5⟩ := anc_parts s t p r
 unfold markB fitsB
 rw [anc_tag s t p r hs, h3, h4, h5, numBe 8 t (by omega), numBe 4 p (by omega), numBe 4 r (by omega), decide_eq_true_iff]
 refine ⟨by omega, ht1, ht, ?_, hpr⟩
 rw [decide_eq_true_iff]
 omega
theorem mod_two {x r : Nat} (h : x < 2 * r) : x % r = if x < r then x else x - r := by
 split
 · exact Nat.mod_eq_of_lt (by assumption)
 · rw [Nat.mod_eq_sub_mod (by omega), Nat.mod_eq_of_lt (by omega)]
def rp (p r i : Nat) : Nat := 2 + (p + i) % r
theorem rp_lt {p r i n : Nat} (hr : 8 <= r) (hn : r + 10 <= n) : rp p r i < n /\ 2 <= rp p r i /\ rp p r i < 2 + r := by
 have := Nat.mod_lt (p + i) (show 0 < r by omega)
 unfold rp
 omega
theorem rp_inj {p r a b : Nat} (hp : p < r) (ha : a < r) (hb : b < r) (h : rp p r a = rp p r b) : a = b := by
 unfold rp at h
 rw [mod_two (x := p + a) (by omega), mod_two (x := p + b) (by omega)] at h
 split at h <;> split at h <;> omega
theorem rp_add (p r a b : Nat) : rp ((p + a) % r) r b = rp p r (a + b) := by
 unfold rp
 rw [Nat.mod_add_mod, Nat.add_assoc]
def usedL (L : List (List Ch)) : Nat := (L.map fun l => l.length + 1).sum
theorem usedL_cons (l : List Ch) (L : List (List Ch)) : usedL (l :: L) = l.length + 1 + usedL L := by simp [usedL]
theorem usedL_snoc (L : List (List Ch)) (l : List Ch) : usedL (L ++ [l]) = usedL L + (l.length + 1) := by simp [usedL]
def ComAt (f : Nat -> List UInt8) (r t p : Nat) (l : List Ch) : Prop := f (rp p r 0) = hdr t l /\ ∀ q c, l[q]? = some c -> f (rp p r (1 + q)) = tagged c.data t
def LogAt (f : Nat -> List UInt8) (r : Nat) : Nat -> Nat -> List (List Ch) -> Prop
 | _, _, [] => True
 | t, p, l :: L => ComAt f r t p l /\ LogAt f r (t + 1) ((p + (l.length + 1)) % r) L
theorem ComAt.congr {f g : Nat -> List UInt8} {r t p : Nat} {l : List Ch} (h : ComAt f r t p l) (e : ∀ i, i < l.length + 1 -> g (rp p r i) = f (rp p r i)) : ComAt g r t p l :=
 ⟨(e 0 (by omega)).trans h.1, fun q c hc => (e (1 + q) (by have := (List.getElem?_eq_some_iff.1 hc).1; omega)).trans (h.2 q c hc)⟩
theorem LogAt.congr {f g : Nat -> List UInt8} {r : Nat} : ∀ {L : List (List Ch)} {t p : Nat}, LogAt f r t p L -> (∀ i, i < usedL L -> g (rp p r i) = f (rp p r i)) -> LogAt g r t p L
 | [], _, _, _, _ => trivial
 | l :: L, t, p, h, e => by
   refine ⟨h.1.congr fun i hi => e i (by rw [usedL_cons]; omega), LogAt.congr h.2 fun i hi => ?_⟩
   rw [rp_add]
   exact e _ (by rw [usedL_cons]; omega)
theorem LogAt.snoc {f : Nat -> List UInt8} {r : Nat} {l : List Ch} : ∀ {L : List (List Ch)} {t p : Nat}, LogAt f r t p L -> ComAt f r (t + L.length) ((p + usedL L) % r) l -> (p < r) -> LogAt f r t p (L ++ [l])
 | [], t, p, _, hc, hp => by
   refine ⟨?_, trivial⟩
   have e : (p + usedL []) % r = p := by show (p + 0) % r = p; rw [Nat.add_zero, Nat.mod_eq_of_lt hp]
   rw [e] at hc
   exact hc
 | a :: L, t, p, h, hc, hp => by
   refine ⟨h.1, LogAt.snoc h.2 ?_ (Nat.mod_lt _ (by omega))⟩
   rw [Nat.mod_add_mod, show t + 1 + L.length = t + (a :: L).length by rw [List.length_cons]; omega, show p + (a.length + 1) + usedL L = p + usedL (a :: L) by rw [usedL_cons]; omega]
   exact hc
section
variable {p : Pt} {n W : Nat} {f : Nat -> List UInt8}
theorem QP.ring (q : QP p n f W) {k : Mk} (hr : 8 <= k.ring) (hn : k.ring + 10 <= n) (i : Nat) : lst (p.m.readS n (k.inRing i : Nat)) = f (rp k.pos k.ring i) := q.rd (rp_lt hr hn).1
theorem ldK_log (q : QP p n f W) {k : Mk} (hr : 8 <= k.ring) (hn : k.ring + 10 <= n) (ht : k.turn < 4611686018427387904) {h : Nat} (hh : h <= 4096) {l : List Ch} (ok : ChsOk h l) (hc : ComAt f k.ring k.turn k.pos l) : ∀ i, i <= l.length -> ldK p.m n k h (hdr k.turn l) i = some (l.take i)
 | 0, _ => by rw [List.take_zero]; rfl
 | i + 1, hi => by
   obtain ⟨x, hx⟩ : ∃ x, l[i]? = some x := ⟨_, List.getElem?_eq_getElem (by omega)⟩
   obtain ⟨h1, h2⟩ := hdr_row (t := k.turn) ok hh hx
   have hxm := ok.hm x (List.mem_of_getElem? hx)
   rw [ldK, ldK_log q hr hn ht hh ok hc i (by omega)]
   simp only []
   rw [q.ring hr hn, hc.2 i x hx, h1, h2, tagged_num hxm.2 (by omega), tagged_back hxm.2, if_neg]
   · rw [List.take_add_one, hx]
     rfl
   · rintro (h3 | h3 | h3)
     · have hnd := ok.nd
       obtain ⟨y, hy, he⟩ := List.mem_map.1 h3
       obtain ⟨j, hj⟩ := List.getElem?_of_mem hy
       rw [List.getElem?_take] at hj
       split at hj
       · rename_i hji
         obtain ⟨hjl, hj2⟩ := List.getElem?_eq_some_iff.1 hj
         obtain ⟨hil, hi2⟩ := List.getElem?_eq_some_iff.1 hx
         have hij := List.pairwise_iff_getElem.1 hnd j i (by rw [List.length_map]; exact hjl) (by rw [List.length_map]; exact hil) hji
         apply hij
         rw [List.getElem_map, List.getElem_map, hj2, hi2]
         exact he
       · cases hj
     · omega
     · exact h3 rfl
theorem ldL_log (q : QP p n f W) {k : Mk} (hr : 8 <= k.ring) (hn : k.ring + 10 <= n) (ht : k.turn < 4611686018427387904) {h : Nat} (hh : h <= 4096) {l : List Ch} (ok : ChsOk h l) (hl : l.length < k.ring) (hc : ComAt f k.ring k.turn k.pos l) : ldL p.m n k h = l := by
 unfold ldL
 simp only []
 rw [q.ring hr hn, hc.1, hdr_tag ok hh (by omega), hdr_cnt ok hh, if_neg (by have := ok.n40; omega), ldK_log q hr hn ht hh ok hc l.length (Nat.le_refl _), List.take_length]
 rfl
theorem ldL_end (q : QP p n f W) {k : Mk} (hr : 8 <= k.ring) (hn : k.ring + 10 <= n) {h : Nat} (ht : tagOf (f (rp k.pos k.ring 0)) ≠ 2 * k.turn + 1) : ldL p.m n k h = [] := by
 unfold ldL
 simp only []
 rw [q.ring hr hn, if_pos (.inl ht)]
def takes (j : JM) (L : List (List Ch)) : JM := L.foldl JM.take j
theorem takes_snoc (j : JM) (L : List (List Ch)) (l : List Ch) : takes j (L ++ [l]) = (takes j L).take l := by simp [takes]
theorem takes_k : ∀ (L : List (List Ch)) (j : JM), j.k.pos < j.k.ring -> (takes j L).k = ⟨j.k.num, j.k.turn + L.length, (j.k.pos + usedL L) % j.k.ring, j.k.ring⟩ /\ (takes j L).lives = j.lives /\ (takes j L).used = j.used + usedL L
 | [], j, h => by
   refine ⟨?_, rfl, rfl⟩
   show j.k = _
   rw [show usedL [] = 0 from rfl, Nat.add_zero, Nat.mod_eq_of_lt h]
   rfl
 | l :: L, j, h => by
   obtain ⟨h1, h2, h3⟩ := takes_k L (j.take l) (Nat.mod_lt _ (by show 0 < j.k.ring; omega))
   refine ⟨?_, h2, ?_⟩
   · show (takes (j.take l) L).k = _
     rw [h1, usedL_cons]
     show (⟨j.k.num, j.k.turn + 1 + L.length, ((j.k.pos + (l.length + 1)) % j.k.ring + usedL L) % j.k.ring, j.k.ring⟩ : Mk) = _
     rw [Nat.mod_add_mod, List.length_cons, show j.k.turn + 1 + L.length = j.k.turn + (L.length + 1) by omega, Nat.add_assoc]
   · show (takes (j.take l) L).used = _
     rw [h3, usedL_cons]
     show j.used + (l.length + 1) + usedL L = _
     omega
theorem rep_log (q : QP p n f W) : ∀ (L : List (List Ch)) (j : JM) (F : Nat), 8 <= j.k.ring -> j.k.ring + 10 <= n -> j.k.pos < j.k.ring -> j.k.turn + L.length < 4611686018427387904 -> (∀ l ∈ L, ChsOk (n - 2 - j.k.ring) l /\ l.length < j.k.ring) -> LogAt f j.k.ring j.k.turn j.k.pos L ->
 tagOf (f (rp ((j.k.pos + usedL L) % j.k.ring) j.k.ring 0)) ≠ 2 * (j.k.turn + L.length) + 1 -> L.length <= F -> rep p.m n F j = takes j L /\ ldL p.m n (takes j L).k ((takes j L).homes n) = []
 | [], j, F, hr, hn, hp, ht, _, _, he, _ => by
   have e1 : (j.k.pos + usedL []) % j.k.ring = j.k.pos := by show (j.k.pos + 0) % _ = _; rw [Nat.add_zero, Nat.mod_eq_of_lt hp]
   rw [e1] at he
   have h0 := ldL_end q hr hn (k := j.k) (h := j.homes n) he
   exact ⟨rep_end h0, h0⟩
 | l :: L, j, 0, hr, hn, hp, ht, _, _, he, hF => by rw [List.length_cons] at hF; omega
 | l :: L, j, F + 1, hr, hn, hp, ht, ok, hl, he, hF => by
   rw [List.length_cons] at hF ht he
   have hn2 := q.ok.n2
   obtain ⟨o1, o2⟩ := ok l (by simp)
   have h1 : ldL p.m n j.k (j.homes n) = l := ldL_log q hr hn (by omega) (by show n - 2 - j.k.ring <= 4096; omega) o1 o2 hl.1
   have h2 : ldL p.m n j.k (j.homes n) ≠ [] := by rw [h1]; exact o1.ne
   rw [rep_go h2, h1]
   refine rep_log q L (j.take l) F hr hn (Nat.mod_lt _ (by show 0 < j.k.ring; omega)) (by show j.k.turn + 1 + L.length < _; omega) (fun x hx => ok x (by simp [hx])) hl.2 ?_ (by omega)
   show tagOf (f (rp (((j.k.pos + (l.length + 1)) % j.k.ring + usedL L) % j.k.ring) j.k.ring 0)) ≠ 2 * (j.k.turn + 1 + L.length) + 1
   rw [Nat.mod_add_mod, Nat.add_assoc, <- usedL_cons, show j.k.turn + 1 + L.length = j.k.turn + (L.length + 1) by omega]
   exact he
theorem new_log (q : QP p n f W) {s t p0 r : Nat} (hs1 : 1 <= s) (hs : s < 4611686018427387904) (ht1 : 1 <= t) (ht : t < 4611686018427387904) (hpr : p0 < r) (hr : 8 <= r) (hr2 : r <= 1024) (hn : r + 10 <= n)
 (an : f (s % 2) = anc s t p0 r) (ot : markB n (f ((s + 1) % 2)) = true -> tagOf (f ((s + 1) % 2)) < s) : newK p.m n 2 = ⟨s, t, p0, r⟩ := by
 have good := anc_good n s t p0 r (by omega) hs1 ht1 ht hpr hr hr2 hn
 have mk := anc_mark s t p0 r (by omega) (by omega) (by omega) (by omega)
 have tg := anc_tag s t p0 r (by omega)
 have e0 : lst (p.m.readS n ((0 : Nat) : Int)) = f 0 := q.rd (by omega)
 have e1 : lst (p.m.readS n ((1 : Nat) : Int)) = f 1 := q.rd (by omega)
 have n1 : newK p.m n 1 = if markB n (f 0) = true /\ 0 < tagOf (f 0) then markS (f 0) else ⟨0, 0, 0, 0⟩ := by
  show (if markB n (lst (p.m.readS n ((0 : Nat) : Int))) = true /\ _ < tagOf (lst (p.m.readS n ((0 : Nat) : Int))) then markS (lst (p.m.readS n ((0 : Nat) : Int))) else _) = _
  rw [e0]
  rfl
 have n2 : newK p.m n 2 = if markB n (f 1) = true /\ (newK p.m n 1).num < tagOf (f 1) then markS (f 1) else newK p.m n 1 := by
  show (if markB n (lst (p.m.readS n ((1 : Nat) : Int))) = true /\ _ < tagOf (lst (p.m.readS n ((1 : Nat) : Int))) then markS (lst (p.m.readS n ((1 : Nat) : Int))) else _) = _
  rw [e1]
 rcases Nat.mod_two_eq_zero_or_one s with h | h
 · rw [h] at an
   rw [show (s + 1) % 2 = 1 by omega] at ot
   have m1 : newK p.m n 1 = ⟨s, t, p0, r⟩ := by
    rw [n1, an, tg, mk, if_pos ⟨good, by omega⟩]
   rw [n2, m1]
   by_cases hm : markB n (f 1) = true
   · have := ot hm
     rw [if_neg (fun hh => by have h2 := hh.2; dsimp only at h2; omega)]
   · rw [if_neg (fun hh => hm hh.1)]
 · rw [h] at an
   rw [show (s + 1) % 2 = 0 by omega] at ot
   have m1 : (newK p.m n 1).num < s := by
    rw [n1]
    by_cases hm : markB n (f 0) = true
    · have := ot hm
      split
      · exact this
      · exact hs1
    · rw [if_neg (fun hh => hm hh.1)]
      exact hs1
   rw [n2, an, tg, mk, if_pos ⟨good, m1⟩]
end
section
variable {p : Pt} {n W : Nat} {f : Nat -> List UInt8}
theorem QP.anchor (q : QP p n f W) (hW : W < 1073741824) (k : Mk) : QP (p.anchor n k) n (upd f (k.num % 2) k.anc) (W + 1) /\ Calm (p.anchor n k).m n := by
 have hn := q.ok.n1
 exact (q.write hW (i := k.num % 2) (by omega) (anc_len _ _ _ _)).flush
theorem stK_log (q : QP p n f W) (hW : W + 50 < 1073741824) (k : Mk) (hr : 8 <= k.ring) (hn : k.ring + 10 <= n) (hp : k.pos < k.ring) (l : List Ch) (h40 : l.length <= 40) (hl : l.length < k.ring) (hd : ∀ c ∈ l, c.data.length = 512) : ∀ i, i <= l.length ->
 ∃ g, QP (stK p n k l i) n g (W + 1 + i) /\ (∀ j c, j < i -> l[j]? = some c -> g (rp k.pos k.ring (1 + j)) = tagged c.data k.turn) /\ ∀ x, (∀ j, j < i + 1 -> x ≠ rp k.pos k.ring j) -> g x = f x
 | 0, _ => ⟨upd f (rp k.pos k.ring 0) zsec, q.write (by omega) (rp_lt hr hn).1 zsec_len, fun j c hj => absurd hj (by omega), fun x hx => upd_ne (hx 0 (by omega))⟩
 | i + 1, hi => by
   obtain ⟨g, h1, h2, h3⟩ := stK_log q hW k hr hn hp l h40 hl hd i (by omega)
   obtain ⟨c, hc⟩ : ∃ c, l[i]? = some c := ⟨_, List.getElem?_eq_getElem (by omega)⟩
   have hcd := hd c (List.mem_of_getElem? hc)
   have e := stK_succ p n k l i c hc
   have h4 := h1.write (by omega) (i := rp k.pos k.ring (1 + i)) (rp_lt hr hn).1 (tagged_len hcd k.turn)
   refine ⟨upd g (rp k.pos k.ring (1 + i)) (tagged c.data k.turn), ?_, fun j c' hj hc' => ?_, fun x hx => ?_⟩
   · rw [e]
     exact h4
   · by_cases hji : j = i
     · subst hji
       rw [hc] at hc'
       injection hc' with hc'
       subst hc'
       exact upd_same _ _ _
     · rw [upd_ne (fun hh => hji (by have := rp_inj hp (by omega) (by omega) hh; omega))]
       exact h2 j c' (by omega) hc'
   · rw [upd_ne (by have := hx (1 + i) (by omega); exact this)]
     exact h3 x fun j hj => hx j (by omega)
theorem stP_log (q : QP p n f W) (hW : W + 50 < 1073741824) (k : Mk) (hr : 8 <= k.ring) (hn : k.ring + 10 <= n) (hp : k.pos < k.ring) (l : List Ch) (h40 : l.length <= 40) (hl : l.length < k.ring) (hd : ∀ c ∈ l, c.data.length = 512) :
 ∃ g, QP (stP p n k l) n g (W + 42) /\ Calm (stP p n k l).m n /\ ComAt g k.ring k.turn k.pos l /\ ∀ x, (∀ j, j < l.length + 1 -> x ≠ rp k.pos k.ring j) -> g x = f x := by
 obtain ⟨g, h1, h2, h3⟩ := stK_log q hW k hr hn hp l h40 hl hd l.length (Nat.le_refl _)
 have h4 := (h1.flush.1.write (by omega) (i := rp k.pos k.ring 0) (rp_lt hr hn).1 (hdr_len k.turn l h40)).flush
 refine ⟨_, h4.1.more (by omega), h4.2, ⟨upd_same _ _ _, fun j c hc => ?_⟩, fun x hx => ?_⟩
 · have hj := (List.getElem?_eq_some_iff.1 hc).1
   rw [upd_ne (fun hh => by have := rp_inj hp (by omega) (by omega) hh; omega)]
   exact h2 j c hj hc
 · rw [upd_ne (hx 0 (by omega))]
   exact h3 x hx
theorem fmtK_log (q : QP p n f W) (hW : W + n < 1073741824) : ∀ k, k <= n -> ∃ g, QP (fmtK p n k) n g (W + k) /\ ∀ x, x < k -> g x = zsec
 | 0, _ => ⟨f, q, fun x hx => absurd hx (by omega)⟩
 | k + 1, hk => by
   obtain ⟨g, h1, h2⟩ := fmtK_log q hW k (by omega)
   have h3 : QP (if k = 2 then (fmtK p n k).fl n else fmtK p n k) n g (W + k) := by
    split
    · exact h1.flush.1
    · exact h1
   refine ⟨upd g k zsec, ?_, fun x hx => ?_⟩
   · rw [fmtK_succ]
     exact h3.write (by omega) (by omega) zsec_len
   · by_cases e : x = k
     · subst e; exact upd_same _ _ _
     · rw [upd_ne e]; exact h2 x (by omega)
theorem fmtP_log {m : RM} (q : QP ⟨m, 0⟩ n f W) (hW : W + n + 2 < 1073741824) (r : Nat) : ∃ g, QP (fmtP m n r) n g (W + n + 1) /\ Calm (fmtP m n r).m n /\ g 1 = anc 1 1 0 r /\ ∀ x, x < n -> x ≠ 1 -> g x = zsec := by
 obtain ⟨g, h1, h2⟩ := fmtK_log q (by omega) n (Nat.le_refl _)
 have h3 := h1.flush.1.anchor (by omega) ⟨1, 1, 0, r⟩
 exact ⟨_, h3.1, h3.2, upd_same _ _ _, fun x hx hne => (upd_ne hne).trans (h2 x hx)⟩
theorem cpK_log (j : JM) (hr : j.k.ring + 10 <= n) : ∀ (is : List Nat) (p : Pt) (f : Nat -> List UInt8) (W : Nat), QP p n f W -> W + is.length < 1073741824 -> (∀ i ∈ is, i < n - 2 - j.k.ring /\ (j.fresh.getD i emp).size = 512) ->
 ∃ g, QP (cpK p n j is) n g (W + is.length) /\ (∀ i ∈ is, g (2 + j.k.ring + i) = lst (j.fresh.getD i emp)) /\ ∀ x, (∀ i ∈ is, x ≠ 2 + j.k.ring + i) -> g x = f x
 | [], p, f, W, q, _, _ => ⟨f, q, fun i hi => absurd hi (by simp), fun x _ => rfl⟩
 | i :: is, p, f, W, q, hW, hi => by
   rw [List.length_cons] at hW
   obtain ⟨i1, i2⟩ := hi i (by simp)
   have h1 := q.write (by omega) (i := 2 + j.k.ring + i) (by omega) (s := lst (j.fresh.getD i emp)) i2
   obtain ⟨g, h2, h3, h4⟩ := cpK_log j hr is _ _ (W + 1) h1 (by omega) (fun x hx => hi x (by simp [hx]))
   refine ⟨g, ?_, fun x hx => ?_, fun x hx => ?_⟩
   · rw [List.length_cons, show W + (is.length + 1) = W + 1 + is.length by omega]
     exact h2
   · by_cases hm : x ∈ is
     · exact h3 x hm
     · have hxi : x = i := by
        rcases List.mem_cons.1 hx with h | h
        · exact h
        · exact absurd h hm
       subst hxi
       rw [h4 _ (fun y hy hh => hm (by have : x = y := by omega
                                       rw [this]; exact hy))]
       exact upd_same _ _ _
   · rw [h4 x (fun y hy => hx y (by simp [hy]))]
     exact upd_ne (hx i (by simp))
end
def bt (v : List UInt8) (j : Nat) : Nat := (v.getD j 0).toNat
theorem bt_eq {v w : List UInt8} {j : Nat} (h : v[j]? = w[j]?) : bt v j = bt w j := by
 unfold bt
 rw [List.getD_eq_getElem?_getD, List.getD_eq_getElem?_getD, h]
theorem num_last {l : List UInt8} {q : Nat} (hl : l.length = q + 1) : num l % 256 = bt l q := by
 have h : l = l.take q ++ [l.getD q 0] := by
  apply List.ext_getElem?
  intro j
  by_cases hj : j < q
  · rw [List.getElem?_append_left (by rw [List.length_take]; omega), List.getElem?_take, if_pos hj]
  · rw [List.getElem?_append_right (by rw [List.length_take]; omega), List.length_take, show min q l.length = q by omega]
    by_cases e : j = q
    · subst e
      rw [Nat.sub_self, List.getElem?_cons_zero, List.getD_eq_getElem?_getD, List.getElem?_eq_getElem (by omega)]
      rfl
    · rw [List.getElem?_eq_none (by omega), List.getElem?_eq_none (by simp; omega)]
 have hb : (l.getD q 0).toNat < 256 := (l.getD q 0).toNat_lt
 rw [h, num_snoc]
 unfold bt
 rw [List.getD_eq_getElem?_getD (l := l.take q ++ [l.getD q 0]), List.getElem?_append_right (by rw [List.length_take]; omega), List.length_take, show q - min q l.length = 0 by omega, List.getElem?_cons_zero, Option.getD_some]
 omega
theorem num_sub_last {v : List UInt8} {p q : Nat} (hv : p + (q + 1) <= v.length) : num (sub v p (q + 1)) % 256 = bt v (p + q) := by
 rw [num_last (sub_len hv)]
 unfold bt
 rw [List.getD_eq_getElem?_getD, sub_at, if_pos (by omega), List.getD_eq_getElem?_getD]
def Old (T : Nat) (v : List UInt8) : Prop := bt v 7 % 2 = 0 \/ bt v 511 % 2 = 0 \/ num (sub v 504 8) < 2 * T + 1
theorem Old.mono {T T' : Nat} {v : List UInt8} (h : Old T v) (ht : T <= T') : Old T' v := by
 rcases h with h | h | h
 · exact .inl h
 · exact .inr (.inl h)
 · exact .inr (.inr (by omega))
theorem Old.tag {T : Nat} {v : List UInt8} (h : Old T v) (hv : v.length = 512) {T' : Nat} (ht : T <= T') : tagOf v ≠ 2 * T' + 1 := by
 have h1 : num (sub v 0 8) % 256 = bt v 7 := num_sub_last (v := v) (p := 0) (q := 7) (by omega)
 have h2 : num (sub v 504 8) % 256 = bt v 511 := num_sub_last (v := v) (p := 504) (q := 7) (by omega)
 unfold tagOf
 split
 · rename_i e
   rcases h with h | h | h
   · omega
   · omega
   · omega
 · omega
theorem zsec_bt (j : Nat) : bt zsec j = 0 := by
 unfold bt zsec zer
 rw [List.getD_eq_getElem?_getD, List.getElem?_replicate]
 split <;> rfl
theorem Old.zero (T : Nat) : Old T zsec := .inl (by rw [zsec_bt])
theorem be_last (q v : Nat) : bt (be (q + 1) v) q = v % 256 := by
 have h : num (be (q + 1) v) % 256 = bt (be (q + 1) v) q := num_last (be_length _ _)
 rw [<- h, be, num_snoc, UInt8.toNat_ofNat']
 omega
theorem over_bt {s b : List UInt8} {p j : Nat} (h : p + b.length <= s.length) : bt (over s p b) j = if p <= j /\ j < p + b.length then bt b (j - p) else bt s j := by
 have e := over_at h j
 split
 · rename_i hk
   rw [if_pos hk] at e
   unfold bt
   rw [List.getD_eq_getElem?_getD, List.getD_eq_getElem?_getD, e]
 · rename_i hk
   rw [if_neg hk] at e
   exact bt_eq e
theorem tagged_bt {d : List UInt8} (hd : d.length = 512) (t : Nat) : bt (tagged d t) 7 % 2 = 0 := by
 unfold tagged
 rw [over_bt (by rw [be_length]; omega), be_length, if_pos (by omega), Nat.sub_zero, be_last]
 omega
theorem Old.tagged_ {d : List UInt8} (hd : d.length = 512) (t T : Nat) : Old T (tagged d t) := .inl (tagged_bt hd t)
theorem Old.hdr_ {h t T : Nat} {l : List Ch} (ok : ChsOk h l) (hh : h <= 4096) (ht : t < T) (ht2 : t < 9223372036854775807) : Old T (hdr t l) := by
 obtain ⟨_, h2, _, _⟩ := hdr_parts t h l ok hh l.length (Nat.le_refl _)
 refine .inr (.inr ?_)
 show num (sub (hdrK t l l.length) 504 8) < _
 rw [h2, numBe 8 _ (by omega)]
 omega
def Oth (s : Nat) (v : List UInt8) : Prop := bt v 511 ≠ (s + 1) % 256 /\ (sub v 0 8 = be 8 (s + 1) \/ num (sub v 504 8) < s)
theorem Oth.tag {s : Nat} {v : List UInt8} (h : Oth s v) (hv : v.length = 512) (hs : 1 <= s) (hs2 : s < 4611686018427387905) : tagOf v < s := by
 have h2 : num (sub v 504 8) % 256 = bt v 511 := num_sub_last (v := v) (p := 504) (q := 7) (by omega)
 unfold tagOf
 split
 · rename_i e
   rcases h.2 with h3 | h3
   · exfalso
     rw [h3, numBe 8 _ (by omega)] at e
     apply h.1
     rw [<- h2, <- e]
   · omega
 · omega
theorem Oth.zero : Oth 1 zsec := by
 refine ⟨by rw [zsec_bt]; decide, .inr ?_⟩
 have : tagOf zsec = 0 := tagOf_zsec
 decide +kernel
theorem Oth.anc {s t p r : Nat} (hs : s < 4611686018427387905) : Oth (s + 1) (anc s t p r) := by
 obtain ⟨_, a2, _⟩ := anc_parts s t p r
 have h2 := num_sub_last (v := Go.Proofs.YthoebjekkfhhgaaGreat.anc s t p r) (p := 504) (q := 7) (by rw [anc_len]; omega)
 rw [a2, numBe 8 _ (by omega), show 504 + 7 = 511 from rfl] at h2
 refine ⟨by rw [<- h2]; omega, .inr ?_⟩
 rw [a2, numBe 8 _ (by omega)]
 omega
structure DJ (p : Pt) (n W s t0 p0 r : Nat) (L : List (List Ch)) (f : Nat -> List UInt8) : Prop where
 q : QP p n f W
 calm : Calm p.m n
 r1 : 8 <= r
 r2 : r <= 1024
 r3 : r + 10 <= n
 s1 : 1 <= s
 s2 : s <= W
 t1 : 1 <= t0
 t2 : t0 + L.length <= W
 pr : p0 < r
 an : f (s % 2) = anc s t0 p0 r
 ot : Oth s (f ((s + 1) % 2))
 us : usedL L <= r
 lg : LogAt f r t0 p0 L
 ok : ∀ l ∈ L, ChsOk (n - 2 - r) l /\ l.length < r
 old : ∀ x, x < r -> Old (t0 + L.length) (f (2 + x))
def homeOf (j : JM) (f : Nat -> List UInt8) (i : Nat) : List UInt8 := if (j.fresh.getD i emp).size ≠ 0 then lst (j.fresh.getD i emp) else f (2 + j.k.ring + i)
def putH (H : Nat -> List UInt8) (l : List Ch) : Nat -> List UInt8 := l.foldl (fun H c => upd H c.home c.data) H
theorem takeF_at (d : Nat -> List UInt8) : ∀ (l : List Ch) (F : List ByteArray), (∀ c ∈ l, c.home < F.length /\ c.data.length = 512) -> ∀ i,
 (if ((takeF F l).getD i emp).size ≠ 0 then lst ((takeF F l).getD i emp) else d i) = putH (fun i => if (F.getD i emp).size ≠ 0 then lst (F.getD i emp) else d i) l i
 | [], F, _, i => rfl
 | c :: l, F, h, i => by
   obtain ⟨h1, h2⟩ := h c (by simp)
   have e := takeF_at d l (F.set c.home (strB c.data)) (fun x hx => by rw [List.length_set]; exact h x (by simp [hx])) i
   show (if ((takeF (F.set c.home (strB c.data)) l).getD i emp).size ≠ 0 then lst ((takeF (F.set c.home (strB c.data)) l).getD i emp) else d i) = putH (upd (fun i => if (F.getD i emp).size ≠ 0 then lst (F.getD i emp) else d i) c.home c.data) l i
   rw [e]
   congr 1
   funext k
   rw [getD_set _ _ _ _ h1]
   unfold upd
   by_cases hk : c.home = k
   · rw [if_pos hk, if_pos hk.symm, if_pos (by rw [strB_size]; omega), lst_strB]
   · have hk2 : ¬ k = c.home := fun e => hk e.symm
     simp only [if_neg hk, if_neg hk2]
theorem putH_congr : ∀ (l : List Ch) (H G : Nat -> List UInt8) (N : Nat), (∀ i, i < N -> H i = G i) -> ∀ i, i < N -> putH H l i = putH G l i
 | [], _, _, _, h, i, hi => h i hi
 | c :: l, H, G, N, h, i, hi => putH_congr l _ _ N (fun k hk => by
    show (if k = c.home then c.data else H k) = (if k = c.home then c.data else G k)
    split
    · rfl
    · exact h k hk) i hi
theorem takes_ring : ∀ (L : List (List Ch)) (j : JM), (takes j L).k.ring = j.k.ring /\ (takes j L).fresh.length = j.fresh.length
 | [], j => ⟨rfl, rfl⟩
 | l :: L, j => by
   obtain ⟨h1, h2⟩ := takes_ring L (j.take l)
   exact ⟨h1, h2.trans (takeF_len _ _)⟩
theorem takes_sz : ∀ (L : List (List Ch)) (j : JM), (∀ l ∈ L, ∀ c ∈ l, c.data.length = 512) -> (∀ s ∈ j.fresh, s.size = 0 \/ s.size = 512) -> ∀ s ∈ (takes j L).fresh, s.size = 0 \/ s.size = 512
 | [], j, _, h => h
 | l :: L, j, hl, h => takes_sz L (j.take l) (fun x hx => hl x (by simp [hx])) (takeF_sz _ _ (fun c hc => hl l (by simp) c hc) h)
theorem takeF_keep : ∀ (l : List Ch) (F : List ByteArray) (i : Nat), (∀ c ∈ l, c.home < F.length /\ c.data.length = 512) -> (F.getD i emp).size ≠ 0 -> ((takeF F l).getD i emp).size ≠ 0
 | [], _, _, _, h => h
 | c :: l, F, i, hl, h => by
   refine takeF_keep l (F.set c.home (strB c.data)) i (fun x hx => by rw [List.length_set]; exact hl x (by simp [hx])) ?_
   rw [getD_set _ _ _ _ (hl c (by simp)).1]
   split
   · rw [strB_size, (hl c (by simp)).2]; decide
   · exact h
theorem takeF_some (F : List ByteArray) (c : Ch) (l : List Ch) (hl : ∀ x ∈ c :: l, x.home < F.length /\ x.data.length = 512) : ((takeF F (c :: l)).getD c.home emp).size ≠ 0 := by
 refine takeF_keep l (F.set c.home (strB c.data)) c.home (fun x hx => by rw [List.length_set]; exact hl x (by simp [hx])) ?_
 rw [getD_set _ _ _ _ (hl c (by simp)).1, if_pos rfl, strB_size, (hl c (by simp)).2]
 decide
theorem takes_keep : ∀ (L : List (List Ch)) (j : JM) (i : Nat), (∀ l ∈ L, ∀ c ∈ l, c.home < j.fresh.length /\ c.data.length = 512) -> (j.fresh.getD i emp).size ≠ 0 -> ((takes j L).fresh.getD i emp).size ≠ 0
 | [], _, _, _, h => h
 | l :: L, j, i, hl, h => takes_keep L (j.take l) i (fun x hx c hc => by
    have := hl x (by simp [hx]) c hc
    exact ⟨by show c.home < (takeF j.fresh l).length; rw [takeF_len]; exact this.1, this.2⟩) (takeF_keep l j.fresh i (hl l (by simp)) h)
theorem frK_nil (N k : Nat) : frK (List.replicate N emp) k = [] := by
 unfold frK
 rw [List.filter_eq_nil_iff]
 intro i _
 have : ((List.replicate N emp).getD i emp).size = 0 := by
  rw [List.getD_eq_getElem?_getD, List.getElem?_replicate]
  split <;> rfl
 rw [decide_eq_true_iff]
 exact fun h => h this
theorem frK_in {F : List ByteArray} {N i : Nat} (hi : i < N) (h : (F.getD i emp).size ≠ 0) : i ∈ frK F N := by
 unfold frK
 rw [List.mem_filter, List.mem_range, decide_eq_true_iff]
 exact ⟨hi, h⟩
section
variable {p : Pt} {n W s t0 p0 r : Nat} {L : List (List Ch)} {f : Nat -> List UInt8} {m : RM}
def jof (m : RM) (n s t0 p0 r : Nat) (L : List (List Ch)) : JM := takes (jop ⟨s, t0, p0, r⟩ m n) L
theorem jof_k (m : RM) (n s t0 p0 r : Nat) (L : List (List Ch)) (h : p0 < r) : (jof m n s t0 p0 r L).k = ⟨s, t0 + L.length, (p0 + usedL L) % r, r⟩ /\ (jof m n s t0 p0 r L).lives = m.powers /\ (jof m n s t0 p0 r L).used = usedL L := by
 obtain ⟨h1, h2, h3⟩ := takes_k L (jop ⟨s, t0, p0, r⟩ m n) h
 exact ⟨h1, h2, h3.trans (Nat.zero_add _)⟩
theorem jof_len (m : RM) (n s t0 p0 r : Nat) (L : List (List Ch)) : (jof m n s t0 p0 r L).fresh.length = n - 2 - r := ((takes_ring L _).2).trans (List.length_replicate)
theorem DJ.jok (d : DJ p n W s t0 p0 r L f) (hW : W <= 1073000000) (m : RM) (hp : m.powers <= 1073741824) : (jof m n s t0 p0 r L).Ok n := by
 obtain ⟨h1, h2, h3⟩ := jof_k m n s t0 p0 r L d.pr
 have s2 := d.s2
 have t2 := d.t2
 have us := d.us
 have r2 := d.r2
 refine ⟨?_, ?_, ?_, ?_, ?_, ?_, ?_, ?_, ?_, ?_⟩
 · rw [h1]; show s < _; omega
 · rw [h1]; show t0 + L.length < _; omega
 · rw [h1]; exact d.r1
 · rw [h1]; exact d.r2
 · rw [h1]; exact d.r3
 · rw [h1]; exact Nat.mod_lt _ (by have := d.r1; omega)
 · rw [h2]; exact hp
 · rw [h3]; omega
 · rw [jof_len]; show _ = n - 2 - _; rw [h1]
 · refine takes_sz L _ (fun l hl c hc => ((d.ok l hl).1.hm c hc).2) (fun x hx => .inl ?_)
   have := List.eq_of_mem_replicate hx
   rw [this]; rfl
theorem DJ.format {g : Nat -> List UInt8} (q : QP ⟨m, 0⟩ n g W) (hW : W + n + 2 < 1073741824) (r : Nat) (r1 : 8 <= r) (r2 : r <= 1024) (r3 : r + 10 <= n) : ∃ f, DJ (fmtP m n r) n (W + n + 1) 1 1 0 r [] f /\ ∀ i, i < n - 2 - r -> f (2 + r + i) = zsec := by
 obtain ⟨f, h1, h2, h3, h4⟩ := fmtP_log q hW r
 refine ⟨f, ⟨h1, h2, r1, r2, r3, Nat.le_refl _, by omega, Nat.le_refl _, by show 1 + 0 <= _; omega, by omega, h3, ?_, Nat.zero_le _, trivial, fun l hl => absurd hl (by simp), fun x hx => ?_⟩, fun i hi => h4 _ (by omega) (by omega)⟩
 · rw [h4 ((1 + 1) % 2) (by omega) (by decide)]
   exact Oth.zero
 · rw [h4 (2 + x) (by omega) (by omega)]
   exact Old.zero _
theorem DJ.snoc (d : DJ p n W s t0 p0 r L f) (hW : W + 50 < 1073741824) {l : List Ch} (ok : ChsOk (n - 2 - r) l) (hl : l.length < r) (hu : usedL L + (l.length + 1) <= r) :
 ∃ g, DJ (stP p n ⟨s, t0 + L.length, (p0 + usedL L) % r, r⟩ l) n (W + 42) s t0 p0 r (L ++ [l]) g /\ ∀ i, g (2 + r + i) = f (2 + r + i) := by
 have hr1 := d.r1
 have hr3 := d.r3
 have hpr := d.pr
 have ht2 := d.t2
 have hn2 := d.q.ok.n2
 have hP : (p0 + usedL L) % r < r := Nat.mod_lt _ (by omega)
 obtain ⟨g, h1, h2, h3, h4⟩ := stP_log d.q hW ⟨s, t0 + L.length, (p0 + usedL L) % r, r⟩ hr1 hr3 hP l ok.n40 hl (fun c hc => (ok.hm c hc).2)
 have hlow : ∀ x, x < 2 -> g x = f x := fun x hx => h4 x (fun j _ hh => by have hh2 : x = rp ((p0 + usedL L) % r) r j := hh; have := (rp_lt (p := (p0 + usedL L) % r) (i := j) hr1 hr3).2.1; omega)
 have hhigh : ∀ i, g (2 + r + i) = f (2 + r + i) := fun i => h4 _ (fun j _ hh => by have hh2 : 2 + r + i = rp ((p0 + usedL L) % r) r j := hh; have := (rp_lt (p := (p0 + usedL L) % r) (i := j) hr1 hr3).2.2; omega)
 refine ⟨g, ⟨h1, h2, hr1, d.r2, hr3, d.s1, by have := d.s2; omega, d.t1, by rw [List.length_append]; show t0 + (L.length + 1) <= _; omega, hpr, by rw [hlow _ (by omega)]; exact d.an, ?_, by rw [usedL_snoc]; exact hu, ?_, fun x hx => ?_, fun x hx => ?_⟩, hhigh⟩
 · rw [hlow _ (by omega)]
   exact d.ot
 · refine LogAt.snoc (d.lg.congr fun i hi => h4 _ fun j hj hh => ?_) h3 hpr
   have e := rp_add p0 r (usedL L) j
   have hh2 : rp p0 r i = rp p0 r (usedL L + j) := hh.trans e
   have := rp_inj hpr (by omega) (by omega) hh2
   omega
 · rcases List.mem_append.1 hx with hx | hx
   · exact d.ok x hx
   · rw [List.mem_singleton] at hx
     subst hx
     exact ⟨ok, hl⟩
 · rw [List.length_append]
   show Old (t0 + (L.length + 1)) (g (2 + x))
   by_cases hj : ∃ j, j < l.length + 1 /\ 2 + x = rp ((p0 + usedL L) % r) r j
   · obtain ⟨j, hj1, hj2⟩ := hj
     rw [hj2]
     cases j with
     | zero =>
       rw [show g (rp ((p0 + usedL L) % r) r 0) = hdr (t0 + L.length) l from h3.1]
       exact Old.hdr_ ok (by omega) (by omega) (by omega)
     | succ q =>
       obtain ⟨c, hc⟩ : ∃ c, l[q]? = some c := ⟨_, List.getElem?_eq_getElem (by omega)⟩
       have e := h3.2 q c hc
       rw [Nat.add_comm q 1, show g (rp ((p0 + usedL L) % r) r (1 + q)) = tagged c.data (t0 + L.length) from e]
       exact Old.tagged_ (ok.hm c (List.mem_of_getElem? hc)).2 _ _
   · rw [h4 _ (fun j hj1 hj2 => hj ⟨j, hj1, hj2⟩)]
     exact (d.old x hx).mono (by omega)
theorem DJ.check (d : DJ p n W s t0 p0 r L f) (hW : W + n + 2 < 1073741824) (m : RM) (hs : ∀ i ∈ frK (jof m n s t0 p0 r L).fresh (jof m n s t0 p0 r L).fresh.length, ((jof m n s t0 p0 r L).fresh.getD i emp).size = 512) :
 ∃ g, DJ (cpP p n (jof m n s t0 p0 r L)) n (W + n + 1) (s + 1) (t0 + L.length) ((p0 + usedL L) % r) r [] g /\ ∀ i, i < n - 2 - r -> g (2 + r + i) = homeOf (jof m n s t0 p0 r L) f i := by
 have hr1 := d.r1
 have hr3 := d.r3
 have hpr := d.pr
 obtain ⟨k1, k2, k3⟩ := jof_k m n s t0 p0 r L hpr
 have kl := jof_len m n s t0 p0 r L
 obtain ⟨J, hJ⟩ : ∃ J, jof m n s t0 p0 r L = J := ⟨_, rfl⟩
 rw [hJ] at k1 k2 k3 kl hs ⊢
 have kr : J.k.ring = r := by rw [k1]
 have hmem : ∀ i ∈ frK J.fresh J.fresh.length, i < n - 2 - J.k.ring /\ (J.fresh.getD i emp).size = 512 := fun i hi => ⟨by rw [kr, <- kl]; exact (frK_mem hi).1, hs i hi⟩
 have hlen := frK_len J.fresh J.fresh.length
 obtain ⟨g, h1, h2, h3⟩ := cpK_log J (by rw [kr]; exact hr3) (frK J.fresh J.fresh.length) p f W d.q (by omega) hmem
 rw [kr] at h2 h3
 have h4 := h1.flush.1.anchor (by omega) J.next
 have enext : J.next = ⟨s + 1, t0 + L.length, (p0 + usedL L) % r, r⟩ := by unfold JM.next; rw [k1]
 have ecp : cpP p n J = ((cpK p n J (frK J.fresh J.fresh.length)).fl n).anchor n J.next := rfl
 rw [ecp]
 have hnum : J.next.num % 2 = (s + 1) % 2 := by rw [enext]
 have hanc : J.next.anc = anc (s + 1) (t0 + L.length) ((p0 + usedL L) % r) r := by rw [enext]; rfl
 rw [hnum, hanc] at h4
 have hlow : ∀ x, x < 2 + r -> g x = f x := fun x hx => h3 x (fun i _ hh => by omega)
 refine ⟨upd g ((s + 1) % 2) (anc (s + 1) (t0 + L.length) ((p0 + usedL L) % r) r), ⟨h4.1.more (by omega), h4.2, hr1, d.r2, hr3, by omega, by have := d.s2; omega, by have := d.t1; omega, by show t0 + L.length + 0 <= _; have := d.t2; omega, Nat.mod_lt _ (by omega), upd_same _ _ _, ?_, Nat.zero_le _, trivial, fun l hl => absurd hl (by simp), fun x hx => ?_⟩, fun i hi => ?_⟩
 · rw [upd_ne (by omega), hlow _ (by omega), show (s + 1 + 1) % 2 = s % 2 by omega, d.an]
   exact Oth.anc (by have := d.s2; omega)
 · rw [upd_ne (by omega), hlow _ (by omega)]
   exact d.old x hx
 · rw [upd_ne (by omega)]
   unfold homeOf
   by_cases hz : (J.fresh.getD i emp).size ≠ 0
   · rw [if_pos hz]
     exact h2 i (frK_in (by rw [kl]; exact hi) hz)
   · rw [if_neg hz, kr]
     refine h3 _ (fun y hy hh => hz ?_)
     have : i = y := by omega
     subst this
     exact (frK_mem hy).2
end
theorem stP_powers (p : Pt) (n : Nat) (k : Mk) (l : List Ch) : (stP p n k l).m.powers = p.m.powers := by
 have h : ∀ (is : List Nat) (q : Pt), (is.foldl (fun p q => p.wr n (k.inRing (1 + q) : Nat) (tagged (l.getD q ⟨0, []⟩).data k.turn)) q).m.powers = q.m.powers := by
  intro is
  induction is with
  | nil => intro q; rfl
  | cons i is ih => intro q; rw [List.foldl_cons, ih, Pt.wr_powers]
 unfold stP
 rw [Pt.fl_powers, Pt.wr_powers, Pt.fl_powers]
 unfold stK
 rw [h, Pt.wr_powers]
theorem cpP_powers (p : Pt) (n : Nat) (j : JM) : (cpP p n j).m.powers = p.m.powers := by
 have h : ∀ (is : List Nat) (q : Pt), (cpK q n j is).m.powers = q.m.powers := by
  intro is
  induction is with
  | nil => intro q; rfl
  | cons i is ih =>
    intro q
    show (cpK (q.wr n (j.k.atHome i : Nat) (lst (j.fresh.getD i emp))) n j is).m.powers = _
    rw [ih, Pt.wr_powers]
 unfold cpP Pt.anchor
 rw [Pt.fl_powers, Pt.wr_powers, Pt.fl_powers, h]
theorem lsE_zero (h : Nat) : ∀ (l : List Pu) (seen : List Int), lsE h seen l = 0 -> (∀ x ∈ l, 0 <= x.i /\ x.i < h /\ x.data.length = 512 /\ x.i ∉ seen) /\ (l.map Pu.i).Nodup
 | [], _, _ => ⟨fun x hx => absurd hx (by simp), by simp⟩
 | x :: r, seen, e => by
   rw [lsE] at e
   split at e
   · cases e
   · rename_i h1
     split at e
     · cases e
     · rename_i h2
       obtain ⟨i1, i2⟩ := lsE_zero h r (x.i :: seen) e
       refine ⟨fun y hy => ?_, ?_⟩
       · rcases List.mem_cons.1 hy with rfl | hy
         · refine ⟨?_, ?_, ?_, fun hh => h1 (.inl hh)⟩
           · rcases Int.lt_or_le y.i 0 with hh | hh
             · exact absurd (.inr (.inl hh)) h1
             · exact hh
           · rcases Int.lt_or_le y.i h with hh | hh
             · exact hh
             · exact absurd (.inr (.inr hh)) h1
           · exact Classical.not_not.1 h2
         · obtain ⟨j1, j2, j3, j4⟩ := i1 y hy
           exact ⟨j1, j2, j3, fun hh => j4 (List.mem_cons_of_mem _ hh)⟩
       · rw [List.map_cons, List.nodup_cons]
         refine ⟨fun hh => ?_, i2⟩
         obtain ⟨y, hy, he⟩ := List.mem_map.1 hh
         exact (i1 y hy).2.2.2 (by rw [he]; exact List.mem_cons_self ..)
theorem lsE_back (h : Nat) : ∀ (l : List Pu) (seen : List Int), (∀ x ∈ l, 0 <= x.i /\ x.i < h /\ x.data.length = 512 /\ x.i ∉ seen) -> (l.map Pu.i).Nodup -> lsE h seen l = 0
 | [], _, _, _ => rfl
 | x :: r, seen, h1, h2 => by
   rw [List.map_cons, List.nodup_cons] at h2
   obtain ⟨j1, j2, j3, j4⟩ := h1 x (by simp)
   rw [lsE, if_neg (by rintro (hh | hh | hh); exact j4 hh; omega; omega), if_neg (fun hh => hh j3)]
   refine lsE_back h r (x.i :: seen) (fun y hy => ?_) h2.2
   obtain ⟨k1, k2, k3, k4⟩ := h1 y (by simp [hy])
   refine ⟨k1, k2, k3, fun hh => ?_⟩
   rcases List.mem_cons.1 hh with hh | hh
   · exact h2.1 (by rw [<- hh]; exact List.mem_map_of_mem hy)
   · exact k4 hh
theorem chs_ok {h : Nat} {l : List Pu} (e : lsE h [] l = 0) (h40 : l.length <= 40) (hne : l ≠ []) : ChsOk h (chs l) := by
 obtain ⟨h1, h2⟩ := lsE_zero h l [] e
 refine ⟨?_, ?_, ?_, ?_⟩
 · intro hh
   unfold chs at hh
   exact hne (List.map_eq_nil_iff.1 hh)
 · unfold chs; rw [List.length_map]; exact h40
 · intro c hc
   obtain ⟨x, hx, rfl⟩ := List.mem_map.1 hc
   obtain ⟨j1, j2, j3, _⟩ := h1 x hx
   exact ⟨by show x.i.toNat < h; omega, j3⟩
 · unfold chs
   rw [List.map_map]
   have e2 : (Ch.home ∘ fun (x : Pu) => (⟨x.i.toNat, x.data⟩ : Ch)) = fun (x : Pu) => x.i.toNat := rfl
   rw [e2]
   unfold List.Nodup at h2 ⊢
   rw [List.pairwise_map] at h2 ⊢
   refine h2.imp_of_mem (fun {a b} ha hb hab => ?_)
   have := (h1 a ha).1
   have := (h1 b hb).1
   omega
def SJ (p : Pt) (n W : Nat) (j : JM) (T u r : Nat) (H : Nat -> List UInt8) : Prop :=
 ∃ s t0 p0 L f, DJ p n W s t0 p0 r L f /\ j = jof p.m n s t0 p0 r L /\ T = t0 + L.length /\ u = usedL L /\ ∀ i, i < n - 2 - r -> homeOf j f i = H i
section
variable {p : Pt} {n W T u r : Nat} {j : JM} {H : Nat -> List UInt8}
theorem SJ.chk (a : SJ p n W j T u r H) : chkE p j = 0 := by
 obtain ⟨s, t0, p0, L, f, d, rfl, _⟩ := a
 unfold chkE
 rw [if_neg]
 rintro (h | h)
 · exact h d.q.e
 · exact h (jof_k p.m n s t0 p0 r L d.pr).2.1.symm
theorem SJ.homes (a : SJ p n W j T u r H) : j.homes n = n - 2 - r /\ j.k.ring = r /\ j.k.turn = T /\ j.used = u /\ j.fresh.length = n - 2 - r /\ 8 <= r /\ r <= 1024 /\ r + 10 <= n /\ u <= r /\ 1 <= T /\ T <= W /\ j.lives = p.m.powers := by
 obtain ⟨s, t0, p0, L, f, d, rfl, rfl, rfl, _⟩ := a
 obtain ⟨k1, k2, k3⟩ := jof_k p.m n s t0 p0 r L d.pr
 refine ⟨by show n - 2 - _ = _; rw [k1], by rw [k1], by rw [k1], k3, jof_len .., d.r1, d.r2, d.r3, d.us, by have := d.t1; omega, d.t2, k2⟩
theorem SJ.jok (a : SJ p n W j T u r H) (hW : W <= 1073000000) : j.Ok n /\ p.m.Ok n /\ p.e = 0 /\ p.m.wrote <= W /\ p.m.readE n 0 = 0 /\ Calm p.m n := by
 obtain ⟨s, t0, p0, L, f, d, rfl, rfl, rfl, _⟩ := a
 exact ⟨d.jok hW p.m d.q.ok.pw, d.q.ok, d.q.e, d.q.wr, d.q.live, d.calm⟩
theorem homeOf_take {j : JM} {f : Nat -> List UInt8} {l : List Ch} (hl : ∀ c ∈ l, c.home < j.fresh.length /\ c.data.length = 512) (i : Nat) : homeOf (j.take l) f i = putH (homeOf j f) l i := by
 have := takeF_at (fun i => f (2 + j.k.ring + i)) l j.fresh hl i
 exact this
theorem SJ.check (a : SJ p n W j T u r H) (hW : W + n + 2 <= 1073000000) : ckE p n j = 0 /\ SJ (ckP p n j) n (W + n + 1) (ckJ p n j) T 0 r H := by
 have jk := (a.jok (by omega)).1
 obtain ⟨s, t0, p0, L, f, d, rfl, rfl, rfl, hH⟩ := a
 obtain ⟨k1, k2, k3⟩ := jof_k p.m n s t0 p0 r L d.pr
 have kl := jof_len p.m n s t0 p0 r L
 have hlim : ¬ ((jof p.m n s t0 p0 r L).k.num ≥ 4611686018427387904 \/ (jof p.m n s t0 p0 r L).k.turn ≥ 4611686018427387904) := by
  rw [k1]
  have := d.s2
  have := d.t2
  show ¬ (s ≥ _ \/ t0 + L.length ≥ _)
  omega
 by_cases hf : frK (jof p.m n s t0 p0 r L).fresh (jof p.m n s t0 p0 r L).fresh.length = []
 · have e1 : ckE p n (jof p.m n s t0 p0 r L) = 0 := by unfold ckE; rw [if_pos hf]
   have e2 : ckP p n (jof p.m n s t0 p0 r L) = p := by unfold ckP; rw [if_pos hf]
   have e3 : ckJ p n (jof p.m n s t0 p0 r L) = jof p.m n s t0 p0 r L := by unfold ckJ; rw [if_pos hf]
   have hL : L = [] := by
    cases L with
    | nil => rfl
    | cons l L =>
      exfalso
      obtain ⟨o1, o2⟩ := d.ok l (by simp)
      cases l with
      | nil => exact o1.ne rfl
      | cons c l =>
        have hfl : (jop ⟨s, t0, p0, r⟩ p.m n).fresh.length = n - 2 - r := List.length_replicate
        have h1 := takeF_some (jop ⟨s, t0, p0, r⟩ p.m n).fresh c l (fun x hx => by rw [hfl]; exact o1.hm x hx)
        have h2 := takes_keep L ((jop ⟨s, t0, p0, r⟩ p.m n).take (c :: l)) c.home (fun x hx y hy => by
         have := (d.ok x (by simp [hx])).1.hm y hy
         refine ⟨?_, this.2⟩
         show y.home < (takeF (jop ⟨s, t0, p0, r⟩ p.m n).fresh (c :: l)).length
         rw [takeF_len, hfl]
         exact this.1) h1
        have h3 := frK_in (N := (jof p.m n s t0 p0 r ((c :: l) :: L)).fresh.length) (by rw [kl]; exact (o1.hm c (by simp)).1) h2
        rw [show frK (takes ((jop ⟨s, t0, p0, r⟩ p.m n).take (c :: l)) L).fresh (jof p.m n s t0 p0 r ((c :: l) :: L)).fresh.length = [] from hf] at h3
        cases h3
   subst hL
   rw [e1, e2, e3]
   exact ⟨rfl, s, t0, p0, [], f, ⟨d.q.more (by omega), d.calm, d.r1, d.r2, d.r3, d.s1, by have := d.s2; omega, d.t1, by have := d.t2; omega, d.pr, d.an, d.ot, d.us, d.lg, d.ok, d.old⟩, rfl, rfl, rfl, hH⟩
 · obtain ⟨g, h1, h2⟩ := d.check (by omega) p.m (fun i hi => by
    obtain ⟨i1, i2⟩ := frK_mem hi
    have hm : (jof p.m n s t0 p0 r L).fresh.getD i emp ∈ (jof p.m n s t0 p0 r L).fresh := by
     rw [List.getD_eq_getElem?_getD, List.getElem?_eq_getElem i1]
     exact List.getElem_mem i1
    rcases jk.fs _ hm with h | h
    · exact absurd h i2
    · exact h)
   have e2 : ckP p n (jof p.m n s t0 p0 r L) = cpP p n (jof p.m n s t0 p0 r L) := by unfold ckP; rw [if_neg hf, if_neg hlim]
   have e1 : ckE p n (jof p.m n s t0 p0 r L) = 0 := by unfold ckE; rw [if_neg hf, if_neg hlim]; exact h1.q.e
   have e3 : ckJ p n (jof p.m n s t0 p0 r L) = (jof p.m n s t0 p0 r L).clean := by unfold ckJ; rw [if_neg hf, if_neg hlim, if_pos h1.q.e]
   rw [e1, e2, e3]
   have ej : (jof p.m n s t0 p0 r L).clean = jof (cpP p n (jof p.m n s t0 p0 r L)).m n (s + 1) (t0 + L.length) ((p0 + usedL L) % r) r [] := by
    unfold JM.clean
    rw [kl, k2]
    show _ = jop ⟨s + 1, t0 + L.length, (p0 + usedL L) % r, r⟩ (cpP p n (jof p.m n s t0 p0 r L)).m n
    unfold jop JM.next
    rw [cpP_powers, k1]
   refine ⟨rfl, s + 1, t0 + L.length, (p0 + usedL L) % r, [], g, h1, ej, rfl, rfl, fun i hi => ?_⟩
   rw [<- hH i hi, <- h2 i hi]
   unfold homeOf
   have e4 : ((jof p.m n s t0 p0 r L).clean.fresh.getD i emp).size = 0 := by
    show ((List.replicate _ emp).getD i emp).size = 0
    rw [List.getD_eq_getElem?_getD, List.getElem?_replicate]
    split <;> rfl
   have e5 : (jof p.m n s t0 p0 r L).clean.k.ring = r := by
    show (jof p.m n s t0 p0 r L).k.ring = r
    rw [k1]
   rw [if_neg (fun h => h e4), e5]
theorem SJ.store (a : SJ p n W j T u r H) (hW : W + 50 <= 1073000000) {l : List Ch} (ok : ChsOk (n - 2 - r) l) (hl : l.length < r) (hu : u + (l.length + 1) <= r) :
 (stP p n j.k l).e = 0 /\ SJ (stP p n j.k l) n (W + 42) (j.take l) (T + 1) (u + (l.length + 1)) r (putH H l) := by
 obtain ⟨s, t0, p0, L, f, d, rfl, rfl, rfl, hH⟩ := a
 obtain ⟨k1, k2, k3⟩ := jof_k p.m n s t0 p0 r L d.pr
 have kl := jof_len p.m n s t0 p0 r L
 obtain ⟨g, h1, h2⟩ := d.snoc (by omega) ok hl hu
 rw [k1]
 have ej : (jof p.m n s t0 p0 r L).take l = jof (stP p n ⟨s, t0 + L.length, (p0 + usedL L) % r, r⟩ l).m n s t0 p0 r (L ++ [l]) := by
  unfold jof
  rw [takes_snoc]
  unfold jop
  rw [stP_powers]
 refine ⟨h1.q.e, s, t0, p0, L ++ [l], g, h1, ej, by rw [List.length_append]; rfl, (usedL_snoc L l).symm, fun i hi => ?_⟩
 rw [homeOf_take (fun c hc => by rw [kl]; exact ok.hm c hc)]
 refine putH_congr l _ _ (n - 2 - r) (fun i hi => ?_) i hi
 rw [<- hH i hi]
 unfold homeOf
 have e5 : (jof p.m n s t0 p0 r L).k.ring = r := by rw [k1]
 rw [e5, h2]
theorem SJ.commit (a : SJ p n W j T u r H) (hW : W + n + 60 <= 1073000000) {l : List Pu} (hv : lstE n j l = 0) (hne : l ≠ []) :
 (cmt p n j l).e = 0 /\ SJ (cmt p n j l).p n (W + n + 43) (cmt p n j l).j (T + 1) (if l.length + 1 > r - u then l.length + 1 else u + (l.length + 1)) r (putH H (chs l)) := by
 obtain ⟨b1, b2, b3, b4, b5, b6, b7, b8, b9, b10, b11, b12⟩ := a.homes
 have hls : lsE (n - 2 - r) [] l = 0 := by
  rw [<- b1]
  unfold lstE at hv
  split at hv
  · rename_i h; exact absurd hv h
  · rename_i h; exact Classical.not_not.1 h
 have h40 : l.length <= 40 /\ l.length < r := by
  unfold lstE at hv
  rw [if_neg (by rw [b1, hls]; exact fun h => h rfl)] at hv
  split at hv
  · cases hv
  · rename_i h; omega
 have ok := chs_ok hls h40.1 hne
 have hcl : (chs l).length = l.length := by unfold chs; rw [List.length_map]
 have ht : ¬ j.k.turn ≥ 4611686018427387903 := by rw [b3]; omega
 by_cases hr : l.length + 1 > r - u
 · obtain ⟨c1, c2⟩ := a.check (by omega)
   obtain ⟨s1, s2⟩ := c2.store (by omega) ok (by omega) (by omega)
   have e : cmt p n j l = ⟨0, stP (ckP p n j) n (ckJ p n j).k (chs l), (ckJ p n j).take (chs l)⟩ := by
    unfold cmt
    rw [if_neg (by rw [a.chk]; exact fun h => h rfl), if_neg (by rw [hv]; exact fun h => h rfl), if_neg hne, if_neg ht, if_pos (by rw [b2, b4]; exact hr), if_neg (by rw [c1]; exact fun h => h rfl), if_neg (by rw [s1]; exact fun h => h rfl)]
   rw [e, if_pos hr]
   refine ⟨rfl, ?_⟩
   rw [hcl, Nat.zero_add] at s2
   exact s2
 · obtain ⟨s1, s2⟩ := a.store (by omega) ok (by omega) (by omega)
   have e : cmt p n j l = ⟨0, stP p n j.k (chs l), j.take (chs l)⟩ := by
    unfold cmt
    rw [if_neg (by rw [a.chk]; exact fun h => h rfl), if_neg (by rw [hv]; exact fun h => h rfl), if_neg hne, if_neg ht, if_neg (by rw [b2, b4]; exact hr), if_neg (by rw [s1]; exact fun h => h rfl)]
   rw [e, if_neg hr]
   refine ⟨rfl, ?_⟩
   rw [hcl] at s2
   obtain ⟨s, t0, p0, L, f, d, x1, x2, x3, x4⟩ := s2
   exact ⟨s, t0, p0, L, f, ⟨d.q.more (by omega), d.calm, d.r1, d.r2, d.r3, d.s1, by have := d.s2; omega, d.t1, by have := d.t2; omega, d.pr, d.an, d.ot, d.us, d.lg, d.ok, d.old⟩, x1, x2, x3, x4⟩
theorem SJ.nil (a : SJ p n W j T u r H) : cmt p n j [] = ⟨0, p, j⟩ := by
 obtain ⟨b1, b2, b3, b4, b5, b6, b7, b8, b9, b10, b11, b12⟩ := a.homes
 have hv : lstE n j [] = 0 := by
  unfold lstE lsE
  rw [if_neg (by decide), if_neg (by rw [b2]; show ¬ (40 < 0 \/ r <= 0); omega)]
 unfold cmt
 rw [if_neg (by rw [a.chk]; exact fun h => h rfl), if_neg (by rw [hv]; exact fun h => h rfl), if_pos rfl]
theorem SJ.read (a : SJ p n W j T u r H) (hW : W <= 1073000000) {i : Nat} (hi : i < n - 2 - r) : jrE p n j (i : Int) = 0 /\ jrS p n j (i : Int) = H i /\ jrP p n j (i : Int) = p := by
 have hc := a.chk
 obtain ⟨b1, b2, b3, b4, b5, b6, b7, b8, b9, b10, b11, b12⟩ := a.homes
 obtain ⟨s, t0, p0, L, f, d, ej, rfl, rfl, hH⟩ := a
 have hb : ¬ ((i : Int) < 0 \/ (j.homes n : Int) <= (i : Int)) := by rw [b1]; omega
 have hat : j.k.atHome i < n := by unfold Mk.atHome; rw [b2]; omega
 have hrd := d.q.rd hat
 have hre := d.q.rE hat
 have hE : jrE p n j (i : Int) = 0 := by
  unfold jrE
  rw [if_neg (by rw [hc]; exact fun h => h rfl), if_neg hb]
  split
  · rfl
  · exact hre
 refine ⟨hE, ?_, ?_⟩
 · unfold jrS
   rw [if_neg (by rw [hE]; exact fun h => h rfl), <- hH i hi]
   unfold homeOf
   show (if (j.fresh.getD i emp).size ≠ 0 then lst (j.fresh.getD i emp) else lst (p.m.readS n (j.k.atHome i : Nat))) = _
   rw [hrd]
   rfl
 · unfold jrP
   rw [if_neg (by rw [hc]; exact fun h => h rfl), if_neg hb]
   split
   · rfl
   · exact Pt.rd_ok hre d.q.e
end
end Go.Proofs.YthoebjekkfhhgaaGreat
