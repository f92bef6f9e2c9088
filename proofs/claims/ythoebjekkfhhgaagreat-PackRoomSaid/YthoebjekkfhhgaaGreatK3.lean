/-
  Own work.
-/
import Derived.Test.YthoebjekkfhhgaaGreatCp9
import Derived.Deep.RegionHeld
import Derived.Test.YthoebjekkfhhgaaGreatK2
import Derived.Test.YthoebjekkfhhgaaGreatPl
set_option linter.unusedVariables false
set_option linter.unusedSimpArgs false
set_option maxRecDepth 100000
set_option maxHeartbeats 8000000
namespace Go.Proofs.YthoebjekkfhhgaaGreat
open Go
def Via (R : Act -> World -> Prop) (Q : Exit -> Act -> World -> Prop) : Exit -> Act -> World -> Prop
 | .normal, a, w => R a w
 | .panic c, a, w => Q (.panic c) a w
 | x, a, w => Q x a w
section
variable {P : Program} {ops : Array Oper} {md : Region.Mode} {Q : Exit -> Act -> World -> Prop} {S : World -> Prop} {R : Act -> World -> Prop}
theorem oper_via {o : Oper} {a : Act} {w : World} {K K' : Act -> World -> Prop} (h : ∀ a w, K a w -> K' a w) (hh : o.wp P a w K (Via R Q)) : o.wp P a w K' Q := by
 unfold Oper.wp at *
 generalize (execOp a.eval o).run P w = r at *
 cases r with
 | ok n w' =>
   cases n <;> simp only [Oper.upon] at hh ⊢ <;>
    first
     | exact h _ _ hh
     | exact Calls.mono hh (fun e w'' he => by cases e <;> first | exact h _ _ he | exact he)
     | exact Rows.mono hh (fun _ _ he => h _ _ he)
     | exact hh
 | halt x w' => cases x <;> simp only [Oper.upon] at hh ⊢ <;> exact hh
theorem wpOp_via {i : Nat} {a : Act} {w : World} {K K' : Act -> World -> Prop} (h : ∀ a w, K a w -> K' a w) (hh : wpOp P ops (Via R Q) i K a w) : wpOp P ops Q i K' a w := by
 unfold wpOp at *
 split
 · exact h _ _ (by simpa [*] using hh)
 · rename_i o ho
   simp only [ho] at hh
   split
   · rename_i hw; simp only [hw, if_true] at hh; exact hh.imp (oper_via h) (fun q => ⟨q.1, by obtain ⟨a, w, y⟩ := q.2; exact ⟨a, w, y⟩⟩)
   · rename_i hw; simp only [hw] at hh; exact h _ _ hh
theorem wpAnyH_via (hR : ∀ a w, R a w -> Q .normal a w) : ∀ (fuel : Nat) (listed : Array Bool) (a : Act) (w : World), wpAnyH P md ops (Via R Q) S fuel listed a w -> wpAnyH P md ops Q S fuel listed a w
 | 0, _, _, _, h => ⟨h.1, hR _ _ h.2⟩
 | fuel + 1, _, _, _, h => ⟨fun e => hR _ _ (h.1 e), fun i hi => wpOp_via (fun a' w' h' => ⟨h'.1, wpAnyH_via hR fuel _ a' w' h'.2⟩) (h.2 i hi)⟩
end
end Go.Proofs.YthoebjekkfhhgaaGreat
namespace Go.Proofs.YthoebjekkfhhgaaGreat
open Go.RowKit Go.Maps
def byt (F : Nat -> List UInt8) (st x : Nat) : UInt8 := (F (st + x / 512)).getD (x % 512) 0
theorem byt_wr {F : Nat -> List UInt8} {st at_ d x : Nat} {b : List UInt8} (hl : (F (st + x / 512)).length = 512) : byt (wrF F st at_ b d) st x = if at_ <= x /\ x < at_ + d then b.getD (x - at_) 0 else byt F st x := by
 unfold byt
 have hm : x % 512 < 512 := Nat.mod_lt _ (by omega)
 have h1 := wrF_at (F := F) (st := st) (at_ := at_) (b := b) (d := d) hl hm
 rw [List.getD, h1, Option.getD_some]
 have e : (st + x / 512 - st) * 512 + x % 512 = x := by omega
 rw [e]
 by_cases h : at_ <= x /\ x < at_ + d
 · rw [if_pos ⟨by omega, h.1, h.2⟩, if_pos h]
 · rw [if_neg (fun hh => h hh.2), if_neg h]
theorem rd_get (F : Nat -> List UInt8) (st at_ : Nat) {n i : Nat} (h : i < n) : (rd F st at_ n)[i]? = some (byt F st (at_ + i)) := rd_at F st at_ h
theorem rd_is {F : Nat -> List UInt8} {st at_ n : Nat} {b : List UInt8} (hb : b.length = n) (h : ∀ i, i < n -> byt F st (at_ + i) = b.getD i 0) : rd F st at_ n = b := by
 apply List.ext_getElem?
 intro i
 by_cases hi : i < n
 · rw [rd_get _ _ _ hi, h i hi, List.getD, List.getElem?_eq_getElem (by omega)]; rfl
 · rw [List.getElem?_eq_none (by rw [rd_len]; omega), List.getElem?_eq_none (by omega)]
theorem rd_congr {F G : Nat -> List UInt8} {st at_ n : Nat} (h : ∀ i, i < n -> byt F st (at_ + i) = byt G st (at_ + i)) : rd F st at_ n = rd G st at_ n := by
 apply List.ext_getElem?
 intro i
 by_cases hi : i < n
 · rw [rd_get _ _ _ hi, rd_get _ _ _ hi, h i hi]
 · rw [List.getElem?_eq_none (by rw [rd_len]; omega), List.getElem?_eq_none (by rw [rd_len]; omega)]
theorem rd_congrF {F G : Nat -> List UInt8} {st at_ n : Nat} (h : ∀ i, i < n -> F (st + (at_ + i) / 512) = G (st + (at_ + i) / 512)) : rd F st at_ n = rd G st at_ n :=
 rd_congr (fun i hi => by unfold byt; rw [h i hi])
theorem rd_app (F : Nat -> List UInt8) (st at_ n m : Nat) : rd F st at_ (n + m) = rd F st at_ n ++ rd F st (at_ + n) m := by
 apply List.ext_getElem?
 intro i
 by_cases h1 : i < n
 · rw [List.getElem?_append_left (by rw [rd_len]; exact h1), rd_get _ _ _ (by omega), rd_get _ _ _ h1]
 · rw [List.getElem?_append_right (by rw [rd_len]; omega), rd_len]
   by_cases h2 : i < n + m
   · rw [rd_get _ _ _ h2, rd_get _ _ _ (by omega)]
     congr 2; omega
   · rw [List.getElem?_eq_none (by rw [rd_len]; omega), List.getElem?_eq_none (by rw [rd_len]; omega)]
theorem rd_sub (F : Nat -> List UInt8) (st : Nat) {at_ n m : Nat} (h : at_ + n <= m) : rd F st at_ n = ((rd F st 0 m).drop at_).take n := by
 apply List.ext_getElem?
 intro i
 rw [List.getElem?_take]
 by_cases hi : i < n
 · rw [if_pos hi, List.getElem?_drop, rd_get _ _ _ hi, rd_get _ _ _ (by omega)]
   congr 2; omega
 · rw [if_neg hi, List.getElem?_eq_none (by rw [rd_len]; omega)]
theorem fld_entB (x : Ent) (hx : x.Ok) : fld (entB x 4) 0 = x.s /\ fld (entB x 4) 1 = x.u /\ fld (entB x 4) 2 = x.v := by
 have e : entB x 4 = be 4 x.s ++ (be 4 x.u ++ (be 4 x.v ++ be 4 0)) := by
  show ((([] ++ be 4 x.s) ++ be 4 x.u) ++ be 4 x.v) ++ be 4 0 = _
  simp
 have p : (256 : Nat) ^ 4 = 4294967296 := by decide
 have l0 : (be 4 x.s).length = 4 := be_length _ _
 have l1 : (be 4 x.u).length = 4 := be_length _ _
 have l2 : (be 4 x.v).length = 4 := be_length _ _
 unfold fld
 rw [e]
 refine ⟨?_, ?_, ?_⟩
 · rw [show 4 * 0 = 0 from rfl, List.drop_zero, List.take_append_of_le_length (by omega), List.take_of_length_le (by omega), num_be_r _ _ (by rw [p]; exact hx.s)]
 · rw [show 4 * 1 = (be 4 x.s).length by omega, List.drop_left, List.take_append_of_le_length (by omega), List.take_of_length_le (by omega), num_be_r _ _ (by rw [p]; exact hx.u)]
 · rw [show 4 * 2 = (be 4 x.s).length + (be 4 x.u).length by omega, <- List.drop_drop, List.drop_left, List.drop_left, List.take_append_of_le_length (by omega), List.take_of_length_le (by omega), num_be_r _ _ (by rw [p]; exact hx.v)]
theorem ent_entB (x : Ent) (hx : x.Ok) (hz : x.s = 0 -> x = .z) : ent (entB x 4) = x := by
 obtain ⟨h0, h1, h2⟩ := fld_entB x hx
 unfold ent
 rw [h0, h1, h2]
 split
 · next h => exact (hz h).symm
 · rfl
theorem TE_put {F : Nat -> List UInt8} (h2 : (F 2).length = 512) (h3 : (F 3).length = 512) (x : Ent) (hx : x.Ok) (hz : x.s = 0 -> x = .z) {k j : Nat} (hk : k < 64) (hj : j < 64) : TE (wrF F 2 (16 * k) (entB x 4) 16) j = if j = k then x else TE F j := by
 have hl : ∀ i, i < 16 -> (F (2 + (16 * j + i) / 512)).length = 512 := fun i hi => by
  have : (16 * j + i) / 512 = 0 \/ (16 * j + i) / 512 = 1 := by omega
  rcases this with e | e <;> rw [e] <;> assumption
 unfold TE
 by_cases h : j = k
 · subst h
   rw [if_pos rfl, rd_is (b := entB x 4) (entB_len x 4) (fun i hi => by rw [byt_wr (hl i hi), if_pos (by omega)]; congr 1; omega)]
   exact ent_entB x hx hz
 · rw [if_neg h, rd_congr (G := F) (fun i hi => by rw [byt_wr (hl i hi), if_neg (by omega)])]
theorem TE_far {F G : Nat -> List UInt8} (h2 : F 2 = G 2) (h3 : F 3 = G 3) {j : Nat} (hj : j < 64) : TE F j = TE G j := by
 unfold TE
 rw [rd_congrF (G := G) (fun i hi => by
  have : (16 * j + i) / 512 = 0 \/ (16 * j + i) / 512 = 1 := by omega
  rcases this with e | e <;> rw [e] <;> assumption)]
structure PkM where
 s : Nat
 d : List UInt8
 v : Nat
def PkM.z : PkM := ⟨0, [], 0⟩
def PkM.ent (p : PkM) : Ent := ⟨p.s, p.d.length, p.v⟩
def updP (P : Nat -> PkM) (k : Nat) (p : PkM) : Nat -> PkM := fun j => if j = k then p else P j
structure PkM.Ok (h : Nat) (F : Nat -> List UInt8) (p : PkM) : Prop where
 lo : 4 <= p.s
 hi : p.s + 16 <= h
 len : p.d.length <= 8192
 v1 : 1 <= p.v
 vl : p.v <= p.d.length
 rd : rd F p.s 0 p.d.length = p.d
 bit : ∀ j, j < 16 -> bitB (F 1) (p.s + j) = true
structure PInv (h : Nat) (F : Nat -> List UInt8) (P : Nat -> PkM) : Prop where
 hh : h <= 4096 /\ 8 <= h
 len : ∀ i, i < h -> (F i).length = 512
 te : ∀ k, k < 64 -> TE F k = (P k).ent
 no : ∀ k, k < 64 -> (P k).s = 0 -> P k = .z
 ok : ∀ k, k < 64 -> (P k).s ≠ 0 -> (P k).Ok h F
 sep : ∀ j k, j < 64 -> k < 64 -> j ≠ k -> (P j).s ≠ 0 -> (P k).s ≠ 0 -> (P j).s + 16 <= (P k).s \/ (P k).s + 16 <= (P j).s
section
variable {h : Nat} {F G : Nat -> List UInt8} {P : Nat -> PkM}
theorem PkM.Ok.ent {p : PkM} (o : p.Ok h F) (hh : h <= 4096) : p.ent.Ok := ⟨by have := o.hi; show p.s < _; omega, by have := o.len; show p.d.length < _; omega, by have := o.vl; have := o.len; show p.v < _; omega⟩
theorem PkM.Ok.congr {p : PkM} (o : p.Ok h F) (h1 : ∀ j, j < 16 -> bitB (G 1) (p.s + j) = true) (hs : ∀ j, j < 16 -> G (p.s + j) = F (p.s + j)) : p.Ok h G :=
 ⟨o.lo, o.hi, o.len, o.v1, o.vl, (rd_congrF (fun i hi => hs _ (by have := o.len; omega))).trans o.rd, h1⟩
theorem PInv.congr (a : PInv h F P) (e : ∀ i, i < h -> F i = G i) : PInv h G P := by
 have h8 := a.hh
 refine ⟨a.hh, fun i hi => by rw [<- e i hi]; exact a.len i hi, fun k hk => ?_, a.no, fun k hk hs => ?_, a.sep⟩
 · rw [<- a.te k hk]
   exact TE_far (e 2 (by omega)).symm (e 3 (by omega)).symm hk
 · have o := a.ok k hk hs
   exact o.congr (by rw [<- e 1 (by omega)]; exact o.bit) (fun j hj => (e _ (by have := o.hi; omega)).symm)
theorem PInv.step (a : PInv h F P) {k : Nat} (hk : k < 64) {p : PkM} (hz : p.s = 0 -> p = .z) (hl : ∀ i, i < h -> (G i).length = 512) (ht : ∀ j, j < 64 -> TE G j = if j = k then p.ent else TE F j) (hp : p.s ≠ 0 -> p.Ok h G) (ho : ∀ j, j < 64 -> j ≠ k -> (P j).s ≠ 0 -> (P j).Ok h G)
 (hs : ∀ j, j < 64 -> j ≠ k -> (P j).s ≠ 0 -> p.s ≠ 0 -> (P j).s + 16 <= p.s \/ p.s + 16 <= (P j).s) : PInv h G (updP P k p) := by
 refine ⟨a.hh, hl, fun j hj => ?_, fun j hj h0 => ?_, fun j hj h0 => ?_, fun i j hi hj hne h1 h2 => ?_⟩
 · rw [ht j hj]
   unfold updP
   split
   · rfl
   · exact a.te j hj
 · unfold updP at h0 ⊢
   split at h0
   · next e => rw [if_pos e]; exact hz h0
   · next e => rw [if_neg e]; exact a.no j hj h0
 · unfold updP at h0 ⊢
   split at h0
   · next e => rw [if_pos e]; exact hp h0
   · next e => rw [if_neg e]; exact ho j hj e h0
 · unfold updP at h1 h2 ⊢
   by_cases e1 : i = k
   · have e2 : j ≠ k := fun e => hne (e1.trans e.symm)
     rw [if_pos e1] at h1 ⊢
     rw [if_neg e2] at h2 ⊢
     exact (hs j hj e2 h2 h1).symm
   · rw [if_neg e1] at h1 ⊢
     by_cases e2 : j = k
     · rw [if_pos e2] at h2 ⊢
       exact hs i hi e1 h1 h2
     · rw [if_neg e2] at h2 ⊢
       exact a.sep i j hi hj hne h1 h2
theorem tab_far (hl : ∀ i, i < h -> (F i).length = 512) {b : List UInt8} {k i : Nat} (hk : k < 64) (hi : i < h) (h2 : i < 2 \/ 4 <= i) : wrF F 2 (16 * k) b 16 i = F i :=
 wrF_far (hl i hi) (by omega)
theorem PInv.app (a : PInv h F P) {k N : Nat} (hk : k < 64) (h0 : (P k).s ≠ 0) {b : List UInt8} (hb : b.length = N) (hu : (P k).d.length + N <= 8192) :
 PInv h (wrF (wrF F (P k).s (P k).d.length b N) 2 (16 * k) (entB ⟨(P k).s, (P k).d.length + N, (P k).v + N⟩ 4) 16) (updP P k ⟨(P k).s, (P k).d ++ b, (P k).v + N⟩) := by
 have o := a.ok k hk h0
 have h8 := a.hh
 have o1 := o.lo
 have o2 := o.hi
 have o3 := o.v1
 have o4 := o.vl
 obtain ⟨x, hx⟩ : ∃ x : Ent, x = ⟨(P k).s, (P k).d.length + N, (P k).v + N⟩ := ⟨_, rfl⟩
 rw [<- hx]
 have xo : x.Ok := by rw [hx]; exact ⟨by show (P k).s < _; omega, by show (P k).d.length + N < _; omega, by show (P k).v + N < _; omega⟩
 have xz : x.s = 0 -> x = .z := fun e => by rw [hx] at e; exact absurd e h0
 obtain ⟨G, hG⟩ : ∃ G, wrF F (P k).s (P k).d.length b N = G := ⟨_, rfl⟩
 rw [hG]
 have gl : ∀ i, i < h -> (G i).length = 512 := fun i hi => by rw [<- hG]; exact wrF_len (a.len i hi)
 have gf : ∀ i, i < h -> i < (P k).s \/ (P k).s + 16 <= i -> G i = F i := fun i hi hf => by rw [<- hG]; exact wrF_far (a.len i hi) (by omega)
 have tf : ∀ i, i < h -> i < 2 \/ 4 <= i -> wrF G 2 (16 * k) (entB x 4) 16 i = G i := fun i hi h2 => tab_far gl hk hi h2
 refine a.step hk (fun e => absurd e h0) (fun i hi => wrF_len (gl i hi)) (fun j hj => ?_) (fun _ => ?_) (fun j hj hne hs => ?_) (fun j hj hne hs _ => a.sep j k hj hk hne hs h0)
 · rw [TE_put (gl 2 (by omega)) (gl 3 (by omega)) x xo xz hk hj, TE_far (gf 2 (by omega) (by omega)) (gf 3 (by omega) (by omega)) hj, hx]
   simp [PkM.ent, hb]
 · refine ⟨o1, o2, by simp [hb]; omega, by show 1 <= _ + _; omega, by simp [hb]; omega, ?_, fun j hj => ?_⟩
   · simp only [List.length_append, hb]
     rw [rd_congrF (G := G) (fun i hi => tf _ (by omega) (by omega)), rd_app, <- hG]
     congr 1
     · exact (rd_congr (fun i hi => by rw [byt_wr (a.len _ (by omega)), if_neg (by omega)])).trans o.rd
     · exact rd_is hb (fun i hi => by rw [byt_wr (a.len _ (by omega)), if_pos (by omega)]; congr 1; omega)
   · rw [tf 1 (by omega) (by omega), gf 1 (by omega) (by omega)]
     exact o.bit j hj
 · have oj := a.ok j hj hs
   have s1 := a.sep j k hj hk hne hs h0
   have j1 := oj.lo
   have j2 := oj.hi
   refine oj.congr (fun i hi => ?_) (fun i hi => ?_)
   · rw [tf 1 (by omega) (by omega), gf 1 (by omega) (by omega)]
     exact oj.bit i hi
   · rw [tf _ (by omega) (by omega), gf _ (by omega) (by omega)]
theorem PInv.dec (a : PInv h F P) {k v : Nat} (hk : k < 64) (h0 : (P k).s ≠ 0) (hv1 : 1 <= v) (hv : v <= (P k).d.length) :
 PInv h (wrF F 2 (16 * k) (entB ⟨(P k).s, (P k).d.length, v⟩ 4) 16) (updP P k ⟨(P k).s, (P k).d, v⟩) := by
 have o := a.ok k hk h0
 have h8 := a.hh
 have o1 := o.lo
 have o2 := o.hi
 have o3 := o.len
 obtain ⟨x, hx⟩ : ∃ x : Ent, x = ⟨(P k).s, (P k).d.length, v⟩ := ⟨_, rfl⟩
 rw [<- hx]
 have xo : x.Ok := by rw [hx]; exact ⟨by show (P k).s < _; omega, by show (P k).d.length < _; omega, by show v < _; omega⟩
 have xz : x.s = 0 -> x = .z := fun e => by rw [hx] at e; exact absurd e h0
 have tf : ∀ i, i < h -> i < 2 \/ 4 <= i -> wrF F 2 (16 * k) (entB x 4) 16 i = F i := fun i hi h2 => tab_far a.len hk hi h2
 refine a.step hk (fun e => absurd e h0) (fun i hi => wrF_len (a.len i hi)) (fun j hj => ?_) (fun _ => ?_) (fun j hj hne hs => ?_) (fun j hj hne hs _ => a.sep j k hj hk hne hs h0)
 · rw [TE_put (a.len 2 (by omega)) (a.len 3 (by omega)) x xo xz hk hj, hx]
   rfl
 · exact ⟨o1, o2, o3, hv1, hv, (rd_congrF (fun i (hi : i < (P k).d.length) => tf _ (by show (P k).s + _ < h; omega) (by right; show 4 <= (P k).s + _; omega))).trans o.rd, fun j hj => by rw [tf 1 (by omega) (by omega)]; exact o.bit j hj⟩
 · have oj := a.ok j hj hs
   have j1 := oj.lo
   have j2 := oj.hi
   exact oj.congr (fun i hi => by rw [tf 1 (by omega) (by omega)]; exact oj.bit i hi) (fun i hi => tf _ (by omega) (by omega))
theorem PInv.gapsep (a : PInv h F P) {s j : Nat} (hg : IsGap (F 1) h 16 s) (hj : j < 64) (h0 : (P j).s ≠ 0) : (P j).s + 16 <= s \/ s + 16 <= (P j).s := by
 have o := a.ok j hj h0
 by_cases e : (P j).s + 16 <= s \/ s + 16 <= (P j).s
 · exact e
 · exfalso
   by_cases h1 : s <= (P j).s
   · have hb := o.bit 0 (by omega)
     have hf := hg.2.1 ((P j).s - s) (by omega)
     rw [show s + ((P j).s - s) = (P j).s + 0 by omega] at hf
     unfold tkB at hf
     rw [hb] at hf
     simp at hf
   · have hb := o.bit (s - (P j).s) (by omega)
     have hf := hg.2.1 0 (by omega)
     rw [show s + 0 = (P j).s + (s - (P j).s) by omega] at hf
     unfold tkB at hf
     rw [hb] at hf
     simp at hf
theorem gap_lo {b : List UInt8} {s : Nat} (hg : IsGap b h 16 s) : 4 <= s := by
 have := hg.2.1 0 (by omega)
 unfold tkB at this
 simp at this
 omega
theorem flip_keep {b : List UInt8} {s i : Nat} (hb : b.length = 512) (hs : s + 16 <= 4096) (hi : i < s \/ s + 16 <= i) : bitB (flipL b s 16) i = bitB b i := by
 rw [flipL_bit b s 16 i (by omega) (by omega), if_neg (by omega)]
theorem flip_turn {b : List UInt8} {s i : Nat} (hb : b.length = 512) (hs : s + 16 <= 4096) (hi : s <= i) (hi2 : i < s + 16) : bitB (flipL b s 16) i = !bitB b i := by
 rw [flipL_bit b s 16 i (by omega) (by omega), if_pos (by omega)]
theorem PInv.new (a : PInv h F P) {k s N : Nat} (hk : k < 64) (h0 : (P k).s = 0) (hg : IsGap (F 1) h 16 s) {b : List UInt8} (hb : b.length = N) (hN : 1 <= N) (hu : N <= 8192) :
 PInv h (wrF (wrF (upd F 1 (flipL (F 1) s 16)) s 0 b N) 2 (16 * k) (entB ⟨s, N, N⟩ 4) 16) (updP P k ⟨s, b, N⟩) := by
 have h8 := a.hh
 have sh := hg.1
 have s4 := gap_lo hg
 have l1 := a.len 1 (by omega)
 obtain ⟨x, hx⟩ : ∃ x : Ent, x = ⟨s, N, N⟩ := ⟨_, rfl⟩
 rw [<- hx]
 have xo : x.Ok := by rw [hx]; exact ⟨by show s < _; omega, by show N < _; omega, by show N < _; omega⟩
 have xz : x.s = 0 -> x = .z := fun e => by rw [hx] at e; exact absurd e (by show s ≠ 0; omega)
 obtain ⟨H, hH⟩ : ∃ H, upd F 1 (flipL (F 1) s 16) = H := ⟨_, rfl⟩
 rw [hH]
 have hl : ∀ i, i < h -> (H i).length = 512 := fun i hi => by
  rw [<- hH]
  by_cases e : i = 1
  · rw [e, upd_same, flipL_len, l1]
  · rw [upd_ne e]; exact a.len i hi
 have hf : ∀ i, i ≠ 1 -> H i = F i := fun i hi => by rw [<- hH]; exact upd_ne hi
 obtain ⟨G, hG⟩ : ∃ G, wrF H s 0 b N = G := ⟨_, rfl⟩
 rw [hG]
 have gl : ∀ i, i < h -> (G i).length = 512 := fun i hi => by rw [<- hG]; exact wrF_len (hl i hi)
 have gf : ∀ i, i < h -> i < s \/ s + 16 <= i -> G i = H i := fun i hi hf => by rw [<- hG]; exact wrF_far (hl i hi) (by omega)
 have tf : ∀ i, i < h -> i < 2 \/ 4 <= i -> wrF G 2 (16 * k) (entB x 4) 16 i = G i := fun i hi h2 => tab_far gl hk hi h2
 have b1 : wrF G 2 (16 * k) (entB x 4) 16 1 = flipL (F 1) s 16 := by rw [tf 1 (by omega) (by omega), gf 1 (by omega) (by omega), <- hH, upd_same]
 have fr : ∀ j, j < 16 -> bitB (F 1) (s + j) = false := fun j hj => by
  have := hg.2.1 j hj
  unfold tkB at this
  simp only [Bool.or_eq_false_iff] at this
  exact this.2
 refine a.step hk (fun e => by have : s = 0 := e; omega) (fun i hi => wrF_len (gl i hi)) (fun j hj => ?_) (fun _ => ?_) (fun j hj hne hs => ?_) (fun j hj hne hs _ => a.gapsep hg hj hs)
 · rw [TE_put (gl 2 (by omega)) (gl 3 (by omega)) x xo xz hk hj, TE_far ((gf 2 (by omega) (by omega)).trans (hf 2 (by omega))) ((gf 3 (by omega) (by omega)).trans (hf 3 (by omega))) hj, hx]
   simp [PkM.ent, hb]
 · refine ⟨s4, sh, by show b.length <= _; omega, hN, by show N <= b.length; omega, ?_, fun j hj => ?_⟩
   · show rd _ s 0 b.length = b
     rw [hb, rd_congrF (G := G) (fun i hi => tf _ (by omega) (by omega)), <- hG]
     exact rd_is hb (fun i hi => by rw [byt_wr (hl _ (by omega)), if_pos (by omega)]; congr 1; omega)
   · rw [b1]
     show bitB _ (s + j) = true
     rw [flip_turn l1 (by omega) (by omega) (by omega), fr j hj]; rfl
 · have oj := a.ok j hj hs
   have s1 := a.gapsep hg hj hs
   have j1 := oj.lo
   have j2 := oj.hi
   refine oj.congr (fun i hi => ?_) (fun i hi => ?_)
   · rw [b1, flip_keep l1 (by omega) (by omega)]
     exact oj.bit i hi
   · rw [tf _ (by omega) (by omega), gf _ (by omega) (by omega), hf _ (by omega)]
theorem PInv.ext (a : PInv h F P) {k : Nat} (hk : k < 64) (h0 : (P k).s ≠ 0) : IsExt (F 1) h ((P k).s : Int) 16 := by
 have o := a.ok k hk h0
 have o1 := o.lo
 have o2 := o.hi
 refine ⟨by omega, by omega, fun j hj => ?_⟩
 rw [Int.toNat_natCast]
 unfold tkB
 rw [o.bit j (by omega), Bool.or_true]
theorem PInv.rel (a : PInv h F P) {k : Nat} (hk : k < 64) (h0 : (P k).s ≠ 0) :
 PInv h (wrF (upd F 1 (flipL (F 1) (P k).s 16)) 2 (16 * k) (entB .z 4) 16) (updP P k .z) := by
 have h8 := a.hh
 have o := a.ok k hk h0
 have o1 := o.lo
 have o2 := o.hi
 have l1 := a.len 1 (by omega)
 have xo : Ent.z.Ok := ⟨by decide, by decide, by decide⟩
 obtain ⟨H, hH⟩ : ∃ H, upd F 1 (flipL (F 1) (P k).s 16) = H := ⟨_, rfl⟩
 rw [hH]
 have hl : ∀ i, i < h -> (H i).length = 512 := fun i hi => by
  rw [<- hH]
  by_cases e : i = 1
  · rw [e, upd_same, flipL_len, l1]
  · rw [upd_ne e]; exact a.len i hi
 have hf : ∀ i, i ≠ 1 -> H i = F i := fun i hi => by rw [<- hH]; exact upd_ne hi
 have tf : ∀ i, i < h -> i < 2 \/ 4 <= i -> wrF H 2 (16 * k) (entB .z 4) 16 i = H i := fun i hi h2 => tab_far hl hk hi h2
 refine a.step hk (fun _ => rfl) (fun i hi => wrF_len (hl i hi)) (fun j hj => ?_) (fun e => absurd rfl e) (fun j hj hne hs => ?_) (fun j hj hne hs e => absurd rfl e)
 · rw [TE_put (hl 2 (by omega)) (hl 3 (by omega)) .z xo (fun _ => rfl) hk hj, TE_far (hf 2 (by omega)) (hf 3 (by omega)) hj]
   rfl
 · have oj := a.ok j hj hs
   have s1 := a.sep j k hj hk hne hs h0
   have j1 := oj.lo
   have j2 := oj.hi
   refine oj.congr (fun i hi => ?_) (fun i hi => ?_)
   · rw [tf 1 (by omega) (by omega), <- hH, upd_same, flip_keep l1 (by omega) (by omega)]
     exact oj.bit i hi
   · rw [tf _ (by omega) (by omega), hf _ (by omega)]
theorem PInv.nil (hh : h <= 4096 /\ 8 <= h) (hl : ∀ i, i < h -> (F i).length = 512) (h2 : F 2 = zer 512) (h3 : F 3 = zer 512) : PInv h F (fun _ => .z) := by
 refine ⟨hh, hl, fun k hk => ?_, fun _ _ _ => rfl, fun k hk e => absurd rfl e, fun _ _ _ _ _ e => absurd rfl e⟩
 have e : rd F 2 (16 * k) 16 = zer 16 := rd_is (by simp [zer]) (fun i hi => by
  unfold byt
  have : (16 * k + i) / 512 = 0 \/ (16 * k + i) / 512 = 1 := by omega
  have z : ∀ n i, (zer n).getD i 0 = 0 := fun n i => by
   unfold zer
   rw [List.getD, List.getElem?_replicate]
   split <;> rfl
  rcases this with e | e <;> rw [e]
  · rw [show 2 + 0 = 2 from rfl, h2, z, z]
  · rw [show 2 + 1 = 3 from rfl, h3, z, z])
 unfold TE
 rw [e]
 rfl
theorem app_one (hl : ∀ i, i < h -> (F i).length = 512) (h8 : 8 <= h) {s u N k : Nat} (hs : 4 <= s) {b e : List UInt8} (hk : k < 64) : wrF (wrF F s u b N) 2 (16 * k) e 16 1 = F 1 := by
 have g1 : wrF F s u b N 1 = F 1 := wrF_far (hl 1 (by omega)) (by omega)
 rw [wrF_far (by rw [g1]; exact hl 1 (by omega)) (by omega), g1]
theorem tab_one (hl : (F 1).length = 512) {k : Nat} {e : List UInt8} : wrF F 2 (16 * k) e 16 1 = F 1 := wrF_far hl (by omega)
theorem new_one (hl : ∀ i, i < h -> (F i).length = 512) (h8 : 8 <= h) {s N k : Nat} (hs : 4 <= s) {b e B : List UInt8} (hB : B.length = 512) (hk : k < 64) : wrF (wrF (upd F 1 B) s 0 b N) 2 (16 * k) e 16 1 = B := by
 have g1 : wrF (upd F 1 B) s 0 b N 1 = B := by rw [wrF_far (by rw [upd_same]; exact hB) (by omega), upd_same]
 rw [wrF_far (by rw [g1]; exact hB) (by omega), g1]
theorem rel_one {k : Nat} {e B : List UInt8} (hB : B.length = 512) : wrF (upd F 1 B) 2 (16 * k) e 16 1 = B := by
 rw [wrF_far (by rw [upd_same]; exact hB) (by omega), upd_same]
structure RowP (h m : Nat) (F : Nat -> List UInt8) (P : Nat -> PkM) : Prop where
 inv : PInv h F P
 m64 : m <= 64
 lo : ∀ j, j < m -> (P j).s = 4 + 16 * j
 no : ∀ j, m <= j -> j < 64 -> (P j).s = 0
 tk : ∀ x, tkB (F 1) x = decide (x < 4 + 16 * m)
theorem RowP.gap {m : Nat} (a : RowP h m F P) (hm : 4 + 16 * m + 16 <= h) : IsGap (F 1) h 16 (4 + 16 * m) := gap_at a.tk (by omega) rfl hm
theorem RowP.nogap {m : Nat} (a : RowP h m F P) (hm : h < 4 + 16 * m + 16) : NoGap (F 1) h 16 := fun s hs => ⟨0, by omega, by rw [a.tk]; exact decide_eq_true (by omega)⟩
theorem RowP.app {m : Nat} (a : RowP h m F P) {k N : Nat} (hk : k < m) {b : List UInt8} (hb : b.length = N) (hu : (P k).d.length + N <= 8192) :
 RowP h m (wrF (wrF F (P k).s (P k).d.length b N) 2 (16 * k) (entB ⟨(P k).s, (P k).d.length + N, (P k).v + N⟩ 4) 16) (updP P k ⟨(P k).s, (P k).d ++ b, (P k).v + N⟩) := by
 have h0 : (P k).s ≠ 0 := by rw [a.lo k hk]; omega
 have m64 := a.m64
 refine ⟨a.inv.app (by omega) h0 hb hu, a.m64, fun j hj => ?_, fun j hj h6 => ?_, fun x => ?_⟩
 · unfold updP
   split
   · next e => rw [<- e]; exact a.lo j hj
   · exact a.lo j hj
 · unfold updP
   rw [if_neg (by omega)]
   exact a.no j hj h6
 · rw [app_one a.inv.len a.inv.hh.2 (by rw [a.lo k hk]; omega) (by omega)]
   exact a.tk x
theorem RowP.new {m : Nat} (a : RowP h m F P) {N : Nat} (hm : m < 64) (hh : 4 + 16 * m + 16 <= h) {b : List UInt8} (hb : b.length = N) (hN : 1 <= N) (hu : N <= 8192) :
 RowP h (m + 1) (wrF (wrF (upd F 1 (flipL (F 1) (4 + 16 * m) 16)) (4 + 16 * m) 0 b N) 2 (16 * m) (entB ⟨4 + 16 * m, N, N⟩ 4) 16) (updP P m ⟨4 + 16 * m, b, N⟩) := by
 have h8 := a.inv.hh
 have l1 := a.inv.len 1 (by omega)
 refine ⟨a.inv.new hm (a.no m (Nat.le_refl _) hm) (a.gap hh) hb hN hu, by omega, fun j hj => ?_, fun j hj h6 => ?_, fun x => ?_⟩
 · unfold updP
   split
   · next e => rw [e]
   · exact a.lo j (by omega)
 · unfold updP
   rw [if_neg (by omega)]
   exact a.no j (by omega) h6
 · rw [new_one a.inv.len a.inv.hh.2 (by omega) (by rw [flipL_len]; exact l1) hm, tk_take l1 h8.1 (by omega) (a.gap hh), a.tk, Bool.eq_iff_iff]
   simp; omega
theorem RowP.nil (hh : h <= 4096 /\ 8 <= h) : RowP h 0 (F8 h) (fun _ => .z) := by
 refine ⟨PInv.nil hh (fun i _ => F8_len (by omega) i) ?_ ?_, by omega, fun j hj => absurd hj (by omega), fun _ _ _ => rfl, fun x => ?_⟩
 · rw [F8_at (by omega), if_pos (by omega)]; rfl
 · rw [F8_at (by omega), if_pos (by omega)]; rfl
 · rw [F8_at (by omega), if_pos (by omega)]
   exact B0_tk x
end
theorem pick_old {F : Nat -> List UInt8} {sz x : Int} {f : Bool} {k : Nat} (hk : k < 64) (h1 : IsRoom F sz (-1) k) (h2 : ∀ j, j < k -> ¬ IsRoom F sz (-1) j) (p : Pick F sz x f) : x = (k : Int) /\ f = true := by
 rcases p with ⟨j, hj, rfl, rfl, r, m⟩ | ⟨no, _⟩
 · rcases Nat.lt_trichotomy j k with h | h | h
   · exact absurd r (h2 j h)
   · exact ⟨by rw [h], rfl⟩
   · exact absurd h1 (m k h)
 · exact absurd h1 (no k hk)
theorem pick_new {F : Nat -> List UInt8} {sz x : Int} {f : Bool} {k : Nat} (hno : ∀ j, j < 64 -> ¬ IsRoom F sz (-1) j) (hk : k < 64) (h1 : (TE F k).s = 0) (h2 : ∀ j, j < k -> (TE F j).s ≠ 0) (p : Pick F sz x f) : x = (k : Int) /\ f = true := by
 rcases p with ⟨j, hj, rfl, rfl, r, m⟩ | ⟨no, ⟨j, hj, rfl, rfl, r, m⟩ | ⟨_, _, m⟩⟩
 · exact absurd r (hno j hj)
 · rcases Nat.lt_trichotomy j k with h | h | h
   · exact absurd r (h2 j h)
   · exact ⟨by rw [h], rfl⟩
   · exact absurd h1 (m k h)
 · exact absurd h1 (m k hk)
def HasRm (P : Nat -> PkM) (sz : Nat) (but : Int) (k : Nat) : Prop := (k : Int) ≠ but /\ (P k).s ≠ 0 /\ (P k).d.length + sz <= 8192
theorem PInv.room {h : Nat} {F : Nat -> List UInt8} {P : Nat -> PkM} (a : PInv h F P) {sz k : Nat} {but : Int} (hk : k < 64) : IsRoom F (sz : Int) but k ↔ HasRm P sz but k := by
 unfold IsRoom HasRm
 rw [a.te k hk]
 show (k : Int) ≠ but /\ (P k).s ≠ 0 /\ (((P k).d.length : Nat) : Int) <= 8192 - (sz : Int) ↔ _
 constructor
 · rintro ⟨h1, h2, h3⟩; exact ⟨h1, h2, by omega⟩
 · rintro ⟨h1, h2, h3⟩; exact ⟨h1, h2, by omega⟩
section
variable {Z : DK} {w0 W W' : World} {g gd gp gt n V r q c q2 c2 : Nat} {F G C : Nat -> List UInt8} {E E' : Nat -> Prop} {P : Nat -> PkM}
theorem RetPl.more {q' c' : Nat} {x y z f : Int} {en : Ending} (h : RetPl Z w0 W g gd gp gt n V r q c F C E x y z f en W') (hq : q <= q') (hc : c <= c') : RetPl Z w0 W g gd gp gt n V r q' c' F C E x y z f en W' :=
 ⟨h.1, h.2.1.more (Nat.le_refl _) hq hc, h.2.2⟩
theorem app_old (pi : PInv (n - 2 - r) F P) (hV : V <= 1073000000) (hq : q + 4300 < 1073741824) (hc : c + 11 < 40) {f : List UInt8} {sz : Nat} (hsz : sz <= 4246) {k : Nat} (hk : k < 64) (h0 : (P k).s ≠ 0) (hr : (P k).d.length + sz <= 8192) :
 ∀ W E b0 b1 b2 b3 A' c', T3 Z w0 W g gd gp gt n V r q c F C E -> W.heap[b0]? = some (bx (TE F k)) -> W.cell? ⟨b1, 0, none⟩ = some (.pointer (some ⟨gt, 0, none⟩)) -> W.cell? ⟨b2, 0, none⟩ = some (.int .i64 (k : Int)) -> W.cell? ⟨b3, 0, none⟩ = some (.slice A' sz c') -> HasB W W.heap.size A' sz f -> sz <= c' -> c' <= maxLen -> (∀ a, A' = some a -> 0 < sz -> E a.block) -> Calls Tryz.prog 83 #[.pointer (some ⟨b0, 0, none⟩), .pointer (some ⟨b1, 0, none⟩), .pointer (some ⟨b2, 0, none⟩), .pointer (some ⟨b3, 0, none⟩)] W fun en W' => en = .returned (.int .i64 0) /\ T3 Z w0 W' g gd gp gt n V r (q + 4300) (c + 12) (wrF (wrF F (P k).s (P k).d.length f sz) 2 (16 * k) (entB ⟨(P k).s, (P k).d.length + sz, (P k).v + sz⟩ 4) 16) C E /\ Only (fun k => ¬ E k) W W' := by
 intro W E b0 b1 b2 b3 A' c' t z0 z1 z2 z3 hb c1 c2 hE
 have o := pi.ok k hk h0
 have o1 := o.hi
 have o2 := o.vl
 have e := pi.te k hk
 rw [e] at z0
 have h := append_yes t hV sz (by omega) (P k).ent h0 k hk A' c' f hb c1 c2 hE hr o2 o1 (by show c + (((P k).d.length + sz + 511) / 512 - (P k).d.length / 512) < 40; omega)
 refine (add1_any (Q := fun v W' => v = .int .i64 0 /\ T3 Z w0 W' g gd gp gt n V r (q + 4300) (c + 12) (wrF (wrF F (P k).s (P k).d.length f sz) 2 (16 * k) (entB ⟨(P k).s, (P k).d.length + sz, (P k).v + sz⟩ 4) 16) C E /\ Only (fun k => ¬ E k) W W') z0 z1 z2 z3 (h.mono ?_)).mono ?_
 · rintro en W' ⟨he, t', y'⟩
   exact ⟨0, he, rfl, t'.more (Nat.le_refl _) (by omega) (by show c + (((P k).d.length + sz + 511) / 512 - (P k).d.length / 512) + 1 <= c + 12; omega), y'⟩
 · rintro en W' ⟨y, rfl, h1, t', y'⟩
   injection h1 with _ h1
   exact ⟨by rw [h1], t', y'⟩
theorem app_new (pi : PInv (n - 2 - r) F P) (hV : V <= 1073000000) (hq : q + 4300 < 1073741824) (hc : c + 11 < 40) {f : List UInt8} {sz : Nat} (hsz : sz <= 4246) {k s : Nat} (hk : k < 64) (h0 : (P k).s = 0) (hg : IsGap (F 1) (n - 2 - r) 16 s) :
 ∀ W E b0 b1 b2 b3 A' c', T3 Z w0 W g gd gp gt n V r q c F C E -> W.heap[b0]? = some (bx (TE F k)) -> W.cell? ⟨b1, 0, none⟩ = some (.pointer (some ⟨gt, 0, none⟩)) -> W.cell? ⟨b2, 0, none⟩ = some (.int .i64 (k : Int)) -> W.cell? ⟨b3, 0, none⟩ = some (.slice A' sz c') -> HasB W W.heap.size A' sz f -> sz <= c' -> c' <= maxLen -> (∀ a, A' = some a -> 0 < sz -> E a.block) -> Calls Tryz.prog 83 #[.pointer (some ⟨b0, 0, none⟩), .pointer (some ⟨b1, 0, none⟩), .pointer (some ⟨b2, 0, none⟩), .pointer (some ⟨b3, 0, none⟩)] W fun en W' => en = .returned (.int .i64 0) /\ T3 Z w0 W' g gd gp gt n V r (q + 4300) (c + 12) (wrF (wrF (upd F 1 (flipL (F 1) s 16)) s 0 f sz) 2 (16 * k) (entB ⟨s, sz, sz⟩ 4) 16) C E /\ Only (fun k => ¬ E k) W W' := by
 intro W E b0 b1 b2 b3 A' c' t z0 z1 z2 z3 hb c1 c2 hE
 rw [pi.te k hk, pi.no k hk h0] at z0
 have h := append_new t hV sz (by omega) s hg k hk A' c' f hb c1 c2 hE (by omega) (by omega)
 refine (add1_any (Q := fun v W' => v = .int .i64 0 /\ T3 Z w0 W' g gd gp gt n V r (q + 4300) (c + 12) (wrF (wrF (upd F 1 (flipL (F 1) s 16)) s 0 f sz) 2 (16 * k) (entB ⟨s, sz, sz⟩ 4) 16) C E /\ Only (fun k => ¬ E k) W W') (x := .z) z0 z1 z2 z3 (h.mono ?_)).mono ?_
 · rintro en W' ⟨he, t', y'⟩
   exact ⟨0, he, rfl, t'.more (Nat.le_refl _) (by omega) (by omega), y'⟩
 · rintro en W' ⟨y, rfl, h1, t', y'⟩
   injection h1 with _ h1
   exact ⟨by rw [h1], t', y'⟩
theorem app_none (pi : PInv (n - 2 - r) F P) (hV : V <= 1073000000) (hq : q + 4300 < 1073741824) (hc : c + 11 < 40) {f : List UInt8} {sz : Nat} {k : Nat} (hk : k < 64) (h0 : (P k).s = 0) (hg : NoGap (F 1) (n - 2 - r) 16) :
 ∀ W E b0 b1 b2 b3 A' c', T3 Z w0 W g gd gp gt n V r q c F C E -> W.heap[b0]? = some (bx (TE F k)) -> W.cell? ⟨b1, 0, none⟩ = some (.pointer (some ⟨gt, 0, none⟩)) -> W.cell? ⟨b2, 0, none⟩ = some (.int .i64 (k : Int)) -> W.cell? ⟨b3, 0, none⟩ = some (.slice A' sz c') -> HasB W W.heap.size A' sz f -> sz <= c' -> c' <= maxLen -> (∀ a, A' = some a -> 0 < sz -> E a.block) -> Calls Tryz.prog 83 #[.pointer (some ⟨b0, 0, none⟩), .pointer (some ⟨b1, 0, none⟩), .pointer (some ⟨b2, 0, none⟩), .pointer (some ⟨b3, 0, none⟩)] W fun en W' => en = .returned (.int .i64 7) /\ W'.heap[gt]? = W.heap[gt]? /\ T3 Z w0 W' g gd gp gt n V r (q + 4300) (c + 12) F C E /\ Only (fun k => ¬ E k) W W' := by
 intro W E b0 b1 b2 b3 A' c' t z0 z1 z2 z3 hb c1 c2 hE
 rw [pi.te k hk, pi.no k hk h0] at z0
 obtain ⟨_, _, hrow⟩ := t.row
 have hlt := (Array.getElem?_eq_some_iff.1 hrow).1
 have h := append_full (W := W) (gt := gt) (P := fun W' => W'.heap[gt]? = W.heap[gt]? /\ T3 Z w0 W' g gd gp gt n V r (q + 4300) (c + 12) F C E /\ Only (fun k => ¬ E k) W W') k sz A' c' (fun w1 hw1 => by
  refine ((t.up1 hw1).take_none2 hV (by omega) (by omega) 16 (by omega) (by omega) hg).mono ?_
  rintro en W' ⟨he, t', y', g'⟩
  exact ⟨he, g'.trans (hw1.block gt hlt), t'.more (Nat.le_refl _) (by omega) (by omega), (Only.of_below hw1 (Nat.le_refl _)).trans y'⟩)
 refine (add1_any (Q := fun v W' => v = .int .i64 7 /\ W'.heap[gt]? = W.heap[gt]? /\ T3 Z w0 W' g gd gp gt n V r (q + 4300) (c + 12) F C E /\ Only (fun k => ¬ E k) W W') (x := .z) z0 z1 z2 z3 (h.mono ?_)).mono ?_
 · rintro en W' ⟨he, h'⟩
   exact ⟨7, he, rfl, h'⟩
 · rintro en W' ⟨y, rfl, h1, h'⟩
   injection h1 with _ h1
   exact ⟨by rw [h1], h'⟩
theorem padd_old (K : FK) (a : T3 Z w0 W g gd gp gt n V r q c F C E) (hV : V <= 1073000000) (hq : q + 4300 < 1073741824) (hc : c + 11 < 40) (key : List UInt8) (hkey : key.length = 32) (A : Option Addr) (N cA : Nat) (b : List UInt8) (hA : HasB W W.heap.size A N b) (hcA : N <= cA) (hcB : cA <= maxLen) (hE : ∀ a, A = some a -> 0 < N -> E a.block) (pi : PInv (n - 2 - r) F P) (hl : b.length <= 4200) (k : Nat) (hk : k < 64) (h0 : HasRm P (b.length + 46) (-1) k) (hm : ∀ j, j < k -> ¬ HasRm P (b.length + 46) (-1) j) :
 Calls Tryz.prog 18 #[.pointer (some ⟨gt, 0, none⟩), .agg (cellsB key).toArray, .slice A N cA] W (RetPl Z w0 W g gd gp gt n V r (q + 4300) (c + 12) (wrF (wrF F (P k).s (P k).d.length (frmL key b) (b.length + 46)) 2 (16 * k) (entB ⟨(P k).s, (P k).d.length + (b.length + 46), (P k).v + (b.length + 46)⟩ 4) 16) C E (k : Int) ((P k).d.length : Int) (((b.length + 46) : Nat) : Int) 0) := by
 have hb := hA.1
 have e := pi.te k hk
 have hu : (TE F k).u = (P k).d.length := by rw [e]; rfl
 rw [<- hu]
 refine add_of a key hkey A N cA b hA hE _ _ _ _ (fun W E a hA hE => (adda_o K a hV key hkey A N cA b hA hcA hcB (by omega) hl (b.length + 46) rfl k hk (fun W gl cur hg hC => (addone_any hg hC (by omega) (by omega)).mono (by rintro e w' ⟨x, f, rfl, hp, hb⟩; obtain ⟨rfl, rfl⟩ := pick_old hk ((pi.room hk).2 h0) (fun j hj h => hm j hj ((pi.room (by omega)).1 h)) hp; exact ⟨rfl, hb⟩)) ?_))
 rw [hu]
 exact app_old pi hV hq hc (by omega) hk h0.2.1 h0.2.2
theorem padd_new (K : FK) (a : T3 Z w0 W g gd gp gt n V r q c F C E) (hV : V <= 1073000000) (hq : q + 4300 < 1073741824) (hc : c + 11 < 40) (key : List UInt8) (hkey : key.length = 32) (A : Option Addr) (N cA : Nat) (b : List UInt8) (hA : HasB W W.heap.size A N b) (hcA : N <= cA) (hcB : cA <= maxLen) (hE : ∀ a, A = some a -> 0 < N -> E a.block) (pi : PInv (n - 2 - r) F P) (hl : b.length <= 4200) (hno : ∀ j, j < 64 -> ¬ HasRm P (b.length + 46) (-1) j) (k : Nat) (hk : k < 64) (h0 : (P k).s = 0) (hm : ∀ j, j < k -> (P j).s ≠ 0) (s : Nat) (hg : IsGap (F 1) (n - 2 - r) 16 s) :
 Calls Tryz.prog 18 #[.pointer (some ⟨gt, 0, none⟩), .agg (cellsB key).toArray, .slice A N cA] W (RetPl Z w0 W g gd gp gt n V r (q + 4300) (c + 12) (wrF (wrF (upd F 1 (flipL (F 1) s 16)) s 0 (frmL key b) (b.length + 46)) 2 (16 * k) (entB ⟨s, (b.length + 46), (b.length + 46)⟩ 4) 16) C E (k : Int) 0 (((b.length + 46) : Nat) : Int) 0) := by
 have hb := hA.1
 have e := pi.te k hk
 have hu : (TE F k).u = 0 := by rw [e, pi.no k hk h0]; rfl
 have t := add_of a key hkey A N cA b hA hE _ _ _ _ (fun W E a hA hE => (adda_o K a hV key hkey A N cA b hA hcA hcB (by omega) hl (b.length + 46) rfl k hk (fun W gl cur hg hC => (addone_any hg hC (by omega) (by omega)).mono (by rintro e w' ⟨x, f, rfl, hp, hb⟩; obtain ⟨rfl, rfl⟩ := pick_new (fun j hj h => hno j hj ((pi.room hj).1 h)) hk (by rw [e]; exact h0) (fun j hj => by rw [pi.te j (by omega)]; exact hm j hj) hp; exact ⟨rfl, hb⟩)) (app_new pi hV hq hc (by omega) hk h0 hg)))
 rw [hu] at t
 exact t
theorem padd_none (K : FK) (a : T3 Z w0 W g gd gp gt n V r q c F C E) (hV : V <= 1073000000) (hq : q + 4300 < 1073741824) (hc : c + 11 < 40) (key : List UInt8) (hkey : key.length = 32) (A : Option Addr) (N cA : Nat) (b : List UInt8) (hA : HasB W W.heap.size A N b) (hcA : N <= cA) (hcB : cA <= maxLen) (hE : ∀ a, A = some a -> 0 < N -> E a.block) (pi : PInv (n - 2 - r) F P) (hl : b.length <= 4200) (hno : ∀ j, j < 64 -> ¬ HasRm P (b.length + 46) (-1) j) (k : Nat) (hk : k < 64) (h0 : (P k).s = 0) (hm : ∀ j, j < k -> (P j).s ≠ 0) (hg : NoGap (F 1) (n - 2 - r) 16) :
 Calls Tryz.prog 18 #[.pointer (some ⟨gt, 0, none⟩), .agg (cellsB key).toArray, .slice A N cA] W (RetPl Z w0 W g gd gp gt n V r (q + 4300) (c + 12) F C E 0 0 0 7) := by
 have hb := hA.1
 have e := pi.te k hk
 exact add_of a key hkey A N cA b hA hE _ _ _ _ (fun W E a hA hE => (adda_x K a hV key hkey A N cA b hA hcA hcB (by omega) hl (b.length + 46) rfl k hk (fun W gl cur hg hC => (addone_any hg hC (by omega) (by omega)).mono (by rintro e w' ⟨x, f, rfl, hp, hb⟩; obtain ⟨rfl, rfl⟩ := pick_new (fun j hj h => hno j hj ((pi.room hj).1 h)) hk (by rw [e]; exact h0) (fun j hj => by rw [pi.te j (by omega)]; exact hm j hj) hp; exact ⟨rfl, hb⟩)) 7 (by decide) (app_none pi hV hq hc hk h0 hg)))
end
section
variable {Z : DK} {w0 W W' : World} {g gd gp gt n V r q c q2 c2 : Nat} {F G C : Nat -> List UInt8} {E E' : Nat -> Prop} {P : Nat -> PkM}
theorem sld (pi : PInv (n - 2 - r) F P) (hV : V <= 1073000000) {k : Nat} (hk : k < 64) (h0 : (P k).s ≠ 0) : ∀ W E, T3 Z w0 W g gd gp gt n V r q c F C E -> Calls Tryz.prog 66 #[.pointer (some ⟨gt, 0, none⟩), .int .i64 (k : Int)] W (RetE Z w0 W g gd gp gt n V r q c F C E (P k).ent 0) := fun W E t => by
 have e := pi.te k hk
 have := pload_yes t hV k hk (by rw [e]; exact h0)
 rwa [e] at this
theorem sld_z (pi : PInv (n - 2 - r) F P) (hV : V <= 1073000000) {k : Nat} (hk : k < 64) (h0 : (P k).s = 0) : ∀ W E, T3 Z w0 W g gd gp gt n V r q c F C E -> Calls Tryz.prog 66 #[.pointer (some ⟨gt, 0, none⟩), .int .i64 (k : Int)] W (RetE Z w0 W g gd gp gt n V r q c F C E .z 1) := fun W E t =>
 pload_zero t hV k hk (by rw [pi.te k hk]; exact h0)
def NoPk (P : Nat -> PkM) (k : Int) : Prop := k < 0 \/ 64 <= k \/ (P k.toNat).s = 0
theorem sld_no (pi : PInv (n - 2 - r) F P) (hV : V <= 1073000000) {k : Int} (hb : Bd k) (h : NoPk P k) : ∀ W E, T3 Z w0 W g gd gp gt n V r q c F C E -> Calls Tryz.prog 66 #[.pointer (some ⟨gt, 0, none⟩), .int .i64 k] W (RetE Z w0 W g gd gp gt n V r q c F C E .z 1) := fun W E t => by
 by_cases h1 : k < 0 \/ 64 <= k
 · exact pload_out t k hb h1
 · obtain ⟨j, rfl⟩ := Int.eq_ofNat_of_zero_le (show 0 <= k by omega)
   refine sld_z pi hV (by omega) ?_ W E t
   rcases h with h | h | h
   · omega
   · omega
   · exact h
theorem pstat_no (a : T3 Z w0 W g gd gp gt n V r q c F C E) (hV : V <= 1073000000) (pi : PInv (n - 2 - r) F P) {k : Int} (hb : Bd k) (h : NoPk P k) :
 Calls Tryz.prog 34 #[.pointer (some ⟨gt, 0, none⟩), .int .i64 k] W (RetSt Z w0 W g gd gp gt n V r q c F C E .z 1) := stat_of (sld_no pi hV hb h W E a)
theorem bd_nat {x : Nat} (h : x <= 4294967296) : Bd (x : Int) := ⟨by omega, by omega⟩
theorem around_in (K : FK) (hV : V <= 1073000000) (pi : PInv (n - 2 - r) F P) {k at_ N : Nat} (hk : k < 64) (h0 : (P k).s ≠ 0) (h46 : 46 <= N) (hin : at_ + N <= (P k).d.length) :
 ∀ W E, T3 Z w0 W g gd gp gt n V r q c F C E -> Calls Tryz.prog 59 #[.pointer (some ⟨gt, 0, none⟩), .agg #[.int .i64 (k : Int), .int .i64 (at_ : Int), .int .i64 (N : Int)]] W (RetE Z w0 W g gd gp gt n V r q c F C E (P k).ent 0) := fun W E t => by
 have o := (pi.ok k hk h0).len
 exact around_o K t k at_ N (bd_nat (by omega)) (bd_nat (by omega)) (P k).ent (by show (P k).d.length < _; omega) (sld pi hV hk h0) (by omega) (by omega) (by show ¬ ((P k).d.length : Int) - (N : Int) < (at_ : Int); omega)
theorem rd_in (pi : PInv (n - 2 - r) F P) {k at_ N : Nat} (hk : k < 64) (h0 : (P k).s ≠ 0) (hin : at_ + N <= (P k).d.length) : rd F (P k).s at_ N = ((P k).d.drop at_).take N := by
 rw [rd_sub F (P k).s hin, (pi.ok k hk h0).rd]
theorem pget_fr (K : FK) (a : T3 Z w0 W g gd gp gt n V r q c F C E) (hV : V <= 1073000000) (pi : PInv (n - 2 - r) F P) {k at_ : Nat} (hk : k < 64) (h0 : (P k).s ≠ 0) (key b : List UInt8) (hkey : key.length = 32) (hb : b.length <= 4200) (hin : at_ + (b.length + 46) <= (P k).d.length) (hf : ((P k).d.drop at_).take (b.length + 46) = frmL key b) :
 Calls Tryz.prog 31 #[.pointer (some ⟨gt, 0, none⟩), .agg #[.int .i64 (k : Int), .int .i64 (at_ : Int), .int .i64 ((b.length + 46 : Nat) : Int)], .agg (cellsB key).toArray] W (RetG Z w0 W g gd gp gt n V r q c F C E b 0) := by
 have o := pi.ok k hk h0
 have o1 := o.len
 have o2 := o.hi
 have hh := pi.hh
 have e := ftake_frame key b [] hkey hb
 rw [List.append_nil] at e
 have er : ftake (rd F (P k).s at_ (b.length + 46)) = ⟨key, b, 46 + b.length, 0⟩ := by rw [rd_in pi hk h0 hin, hf, e]
 have h := get_o K a hV k at_ (b.length + 46) (by omega) (by omega) key hkey (P k).ent (by show (P k).s <= _; omega) (fun d hd => by show (P k).s + _ < _; omega) (around_in K hV pi hk h0 (by omega) hin) (by show (ftake (rd F (P k).s at_ (b.length + 46))).e = 0; rw [er]) (by show (ftake (rd F (P k).s at_ (b.length + 46))).key = key; rw [er]) (by show ¬ (ftake (rd F (P k).s at_ (b.length + 46))).n < _; rw [er]; show ¬ 46 + b.length < _; omega)
 have h2 : (ftake (rd F (P k).ent.s at_ (b.length + 46))).b = b := by show (ftake (rd F (P k).s at_ (b.length + 46))).b = b; rw [er]
 rw [h2] at h
 exact h
theorem pdrop_st (K : FK) (a : T3 Z w0 W g gd gp gt n V r q c F C E) (hV : V <= 1073000000) (pi : PInv (n - 2 - r) F P) (hq : q + 4300 < 1073741824) (hc : c + 11 < 40) {k at_ N : Nat} (hk : k < 64) (h0 : (P k).s ≠ 0) (h46 : 46 <= N) (hin : at_ + N <= (P k).d.length) (hv : N < (P k).v) :
 Calls Tryz.prog 30 #[.pointer (some ⟨gt, 0, none⟩), .agg #[.int .i64 (k : Int), .int .i64 (at_ : Int), .int .i64 (N : Int)]] W fun en W' => en = .returned (.int .i64 0) /\ T3 Z w0 W' g gd gp gt n V r (q + 4300) (c + 12) (wrF F 2 (16 * k) (entB ⟨(P k).s, (P k).d.length, (P k).v - N⟩ 4) 16) C E /\ Only (fun k => ¬ E k) W W' := by
 refine (drop_st a hV (by omega) (by omega) k hk at_ N (P k).ent ((pi.ok k hk h0).ent pi.hh.1) hv (around_in K hV pi hk h0 h46 hin)).mono ?_
 rintro en W' ⟨he, t', y'⟩
 exact ⟨he, t'.more (Nat.le_refl _) (by omega) (by omega), y'⟩
theorem pdrop_rel (K : FK) (a : T3 Z w0 W g gd gp gt n V r q c F C E) (hV : V <= 1073000000) (pi : PInv (n - 2 - r) F P) (hq : q + 4300 < 1073741824) (hc : c + 11 < 40) {k at_ : Nat} (hk : k < 64) (h0 : (P k).s ≠ 0) (h46 : 46 <= (P k).v) (hin : at_ + (P k).v <= (P k).d.length) :
 Calls Tryz.prog 30 #[.pointer (some ⟨gt, 0, none⟩), .agg #[.int .i64 (k : Int), .int .i64 (at_ : Int), .int .i64 ((P k).v : Int)]] W fun en W' => en = .returned (.int .i64 0) /\ T3 Z w0 W' g gd gp gt n V r (q + 4300) (c + 12) (wrF (upd F 1 (flipL (F 1) (P k).s 16)) 2 (16 * k) (entB .z 4) 16) C E /\ Only (fun k => ¬ E k) W W' := by
 have o := pi.ok k hk h0
 refine (drop_rel a hV (by omega) (by omega) k hk at_ (P k).ent (o.ent pi.hh.1).v (pi.ext hk h0) (around_in K hV pi hk h0 h46 hin)).mono ?_
 rintro en W' ⟨he, t', y'⟩
 exact ⟨he, t'.more (Nat.le_refl _) (by omega) (by omega), y'⟩
end
section
variable {Z : DK} {w0 W W' : World} {g gd gp gt n V r q c q2 c2 : Nat} {F G C : Nat -> List UInt8} {E E' : Nat -> Prop} {P : Nat -> PkM}
theorem radd_old (K : FK) (a : T3 Z w0 W g gd gp gt n V r q c F C E) (hV : V <= 1073000000) (hq : q + 4300 < 1073741824) (hc : c + 11 < 40) (key : List UInt8) (hkey : key.length = 32) (A : Option Addr) (N cA : Nat) (b : List UInt8) (hA : HasB W W.heap.size A N b) (hcA : N <= cA) (hcB : cA <= maxLen) (hE : ∀ a, A = some a -> 0 < N -> E a.block)
 {m : Nat} (rw_ : RowP (n - 2 - r) m F P) (hl : b.length <= 4200) {k : Nat} (hk : k < m) (hr : (P k).d.length + (b.length + 46) <= 8192) (hm : ∀ j, j < k -> 8192 < (P j).d.length + (b.length + 46)) :
 Calls Tryz.prog 18 #[.pointer (some ⟨gt, 0, none⟩), .agg (cellsB key).toArray, .slice A N cA] W fun en W' => ∃ F' P', RetPl Z w0 W g gd gp gt n V r (q + 4300) (c + 12) F' C E (k : Int) ((P k).d.length : Int) ((b.length + 46 : Nat) : Int) 0 en W' /\ RowP (n - 2 - r) m F' P' /\ P' = updP P k ⟨(P k).s, (P k).d ++ frmL key b, (P k).v + (b.length + 46)⟩ := by
 have m64 := rw_.m64
 have h0 : (P k).s ≠ 0 := by rw [rw_.lo k hk]; omega
 refine (padd_old K a hV hq hc key hkey A N cA b hA hcA hcB hE rw_.inv hl k (by omega) ⟨by omega, h0, hr⟩ (fun j hj h => by have := hm j hj; have := h.2.2; omega)).mono ?_
 intro en W' h
 exact ⟨_, _, h, rw_.app hk (by rw [frmL_len _ _ hkey]; omega) hr, rfl⟩
theorem radd_new (K : FK) (a : T3 Z w0 W g gd gp gt n V r q c F C E) (hV : V <= 1073000000) (hq : q + 4300 < 1073741824) (hc : c + 11 < 40) (key : List UInt8) (hkey : key.length = 32) (A : Option Addr) (N cA : Nat) (b : List UInt8) (hA : HasB W W.heap.size A N b) (hcA : N <= cA) (hcB : cA <= maxLen) (hE : ∀ a, A = some a -> 0 < N -> E a.block)
 {m : Nat} (rw_ : RowP (n - 2 - r) m F P) (hl : b.length <= 4200) (hm : m < 64) (hh : 4 + 16 * m + 16 <= n - 2 - r) (hno : ∀ j, j < m -> 8192 < (P j).d.length + (b.length + 46)) :
 Calls Tryz.prog 18 #[.pointer (some ⟨gt, 0, none⟩), .agg (cellsB key).toArray, .slice A N cA] W fun en W' => ∃ F' P', RetPl Z w0 W g gd gp gt n V r (q + 4300) (c + 12) F' C E (m : Int) 0 ((b.length + 46 : Nat) : Int) 0 en W' /\ RowP (n - 2 - r) (m + 1) F' P' /\ P' = updP P m ⟨4 + 16 * m, frmL key b, b.length + 46⟩ := by
 refine (padd_new K a hV hq hc key hkey A N cA b hA hcA hcB hE rw_.inv hl (fun j hj h => ?_) m hm (rw_.no m (Nat.le_refl _) hm) (fun j hj => by rw [rw_.lo j hj]; omega) (4 + 16 * m) (rw_.gap hh)).mono ?_
 · by_cases hjm : j < m
   · have := hno j hjm; have := h.2.2; omega
   · exact h.2.1 (rw_.no j (by omega) hj)
 · intro en W' h
   exact ⟨_, _, h, rw_.new hm hh (by rw [frmL_len _ _ hkey]; omega) (by omega) (by omega), rfl⟩
theorem radd_none (K : FK) (a : T3 Z w0 W g gd gp gt n V r q c F C E) (hV : V <= 1073000000) (hq : q + 4300 < 1073741824) (hc : c + 11 < 40) (key : List UInt8) (hkey : key.length = 32) (A : Option Addr) (N cA : Nat) (b : List UInt8) (hA : HasB W W.heap.size A N b) (hcA : N <= cA) (hcB : cA <= maxLen) (hE : ∀ a, A = some a -> 0 < N -> E a.block)
 {m : Nat} (rw_ : RowP (n - 2 - r) m F P) (hl : b.length <= 4200) (hm : m < 64) (hh : n - 2 - r < 4 + 16 * m + 16) (hno : ∀ j, j < m -> 8192 < (P j).d.length + (b.length + 46)) :
 Calls Tryz.prog 18 #[.pointer (some ⟨gt, 0, none⟩), .agg (cellsB key).toArray, .slice A N cA] W (RetPl Z w0 W g gd gp gt n V r (q + 4300) (c + 12) F C E 0 0 0 7) := by
 refine padd_none K a hV hq hc key hkey A N cA b hA hcA hcB hE rw_.inv hl (fun j hj h => ?_) m hm (rw_.no m (Nat.le_refl _) hm) (fun j hj => by rw [rw_.lo j hj]; omega) (rw_.nogap hh)
 by_cases hjm : j < m
 · have := hno j hjm; have := h.2.2; omega
 · exact h.2.1 (rw_.no j (by omega) hj)
theorem cntD_no : ∀ k, cntD (fun _ => false) k = 0 := fun k => by
 induction k with
 | zero => rfl
 | succ k ih => rw [cntD, ih]; simp
theorem t3_begun (t : TxS Z w0 W g gd gp gt n V r 0 F C (fun _ => false) E) : T3 Z w0 W g gd gp gt n V r 0 0 F C E := ⟨_, 0, Nat.le_refl _, t, by rw [cntD_no]; exact Nat.le_refl _⟩
end
def keyL (k : UInt8) : List UInt8 := k :: (zer 30 ++ [k])
theorem keyL_len (k : UInt8) : (keyL k).length = 32 := by simp [keyL, zer]
theorem built_key (k : UInt8) : Tryz.prog.built 56 [(0, .int .u8 (k.toNat : Int)), (31, .int .u8 (k.toNat : Int))] = some (cellsB (keyL k)).toArray := by kernel_rfl
theorem res_id {fn : Func} {p : Tmp} (h : fn.results = #[.cell p 56]) (tmps : Array Value) {w : World} {g : Nat} {t : TypeId} {s : List UInt8} (hp : tmps.getD p undef = .pointer (some ⟨g, 0, none⟩)) (hB : Bw w g t s) (hs : s.length = 32) :
 (results fn tmps).run Tryz.prog w = .ok (.agg (cellsB s).toArray) w :=
 results_cell_row h tmps w g t _ (0, 0) _ hp hB Tryz.underlying56 rfl (id_iv s hs)
theorem key_any (k : UInt8) (w : World) : Calls Tryz.prog 17 #[.int .u8 (k.toNat : Int)] w fun e w' => e = .returned (.agg (cellsB (keyL k)).toArray) /\ Below w.heap.size w w' := by
 have bk := built_key k
 have hq := keyL_len k
 obtain ⟨q, hqq⟩ : ∃ q, keyL k = q := ⟨_, rfl⟩
 obtain ⟨y, hy⟩ : ∃ y : Int, (k.toNat : Int) = y := ⟨_, rfl⟩
 rw [hqq] at bk hq ⊢
 rw [hy] at bk ⊢
 have BK := lH bk
 have HQ := lH hq
 have IV := lH (id_iv q hq)
 have IZ := lH (id_hz q hq)
 clear hqq bk hy hq
 go_enter Tryz.func17, Tryz.ntmps17
 go_wp2_with (first
  | (refine wpList_build2 rfl 56 0 31 (.tmp 3) (.tmp 4) rfl _ _ rfl rfl _ BK.out ?_)
  | (refine wpList_store_row rfl 56 (.tmp 2) (.tmp 5) rfl w.heap.size (cellsB q).toArray rfl rfl ?a4 ?a5 ?a6 ?a7 ?a8 ?a9 ?a10
     (case a6 => exact (Bw.new w (zer 32) 56))
     (case a7 => exact IV.out)
     (case a8 => exact IZ.out)
     (case a9 => exact (cellsB_ones _))))
 refine bodyPost_ret (v := .agg (cellsB q).toArray) ?_ (by rfl) ⟨rfl, gid_below w q⟩
 exact res_id (p := 2) rfl _ (by rfl) (gid_box w q) HQ.out
def plB (a b c : Int) : Obj := .cells (plC a b c).toArray 44 (0, 0)
theorem pl_box (w : World) (a b c : Int) : ((w.alloc (.cells #[.int .i64 0, .int .i64 0, .int .i64 0] 44)).setRow w.heap.size (plC a b c).toArray).heap[w.heap.size]? = some (plB a b c) := setRow_heap _ _ _ _ 44 _ (heap_alloc_new w _)
theorem pl_below (w : World) (a b c : Int) : Below w.heap.size w ((w.alloc (.cells #[.int .i64 0, .int .i64 0, .int .i64 0] 44)).setRow w.heap.size (plC a b c).toArray) := below_setRow ((Below.refl _ _).alloc (Nat.le_refl _) _) (Nat.le_refl _) _
theorem eql_pl (a b c : Int) (w : World) : (binOp .eql 44 (.agg (plC a b c).toArray) (.agg (plC a b c).toArray)).run Tryz.prog w = .ok (.bool true) w := by
 unfold plC
 go_simp
theorem begun11_any (Z : DK) (K : FK) (w : World) : Calls Tryz.prog 7 #[] w (RetTrue w) := by
 have CB := lH (begun_tx Z w w (Below.refl _ _) 200 60 (by omega) (by omega) (by omega) (by omega) (by omega))
 have K1 : Hid (∀ W, Calls Tryz.prog 17 #[.int .u8 1] W fun e w' => e = .returned (.agg (cellsB (keyL 1)).toArray) /\ Below W.heap.size W w') := lH (fun W => key_any 1 W)
 have K2 : Hid (∀ W, Calls Tryz.prog 17 #[.int .u8 2] W fun e w' => e = .returned (.agg (cellsB (keyL 2)).toArray) /\ Below W.heap.size W w') := lH (fun W => key_any 2 W)
 have l1 := keyL_len 1
 have l2 := keyL_len 2
 have CA1 : Hid (∀ g gd gp gt W, T3 Z w W g gd gp gt 200 645 60 0 0 (F8 138) (F8 138) (fun _ => False) -> Calls Tryz.prog 18 #[.pointer (some ⟨gt, 0, none⟩), .agg (cellsB (keyL 1)).toArray, .slice (some ⟨W.heap.size, 0, none⟩) 1 1] (W.alloc (.cells #[.int .u8 7] 5)) fun en W' => ∃ F' P', en = .returned (.tuple #[.agg (plC 0 0 47).toArray, .int .i64 0]) /\ T3 Z w W' g gd gp gt 200 645 60 4300 12 F' (F8 138) (fun _ => False) /\ RowP 138 1 F' P' /\ P' 0 = ⟨4, frmL (keyL 1) [7], 47⟩) := lH (fun g gd gp gt W t => by
  have t1 := t.alloc (.cells #[.int .u8 7] 5)
  refine (radd_new K t1 (by omega) (by omega) (by omega) (keyL 1) l1 (some ⟨W.heap.size, 0, none⟩) 1 1 [7] (HasB.row W [7] 5) (by omega) (by simp [maxLen]) (fun a ha _ => .inr (by injection ha with ha; rw [<- ha])) (RowP.nil (h := 138) (by omega)) (by simp) (by omega) (by omega) (fun j hj => absurd hj (by omega))).mono ?_
  rintro en W' ⟨F', P', ⟨he, t', y'⟩, r', hP⟩
  refine ⟨F', P', he, t'.less (fun k hk => .inl hk), r', ?_⟩
  rw [hP]; rfl)
 have CA2 : Hid (∀ g gd gp gt W p F P, T3 Z w W g gd gp gt 200 645 60 4300 12 F (F8 138) (fun k => k = p) -> RowP 138 1 F P -> P 0 = ⟨4, frmL (keyL 1) [7], 47⟩ -> Calls Tryz.prog 18 #[.pointer (some ⟨gt, 0, none⟩), .agg (cellsB (keyL 2)).toArray, .slice (some ⟨W.heap.size, 0, none⟩) 1 1] (W.alloc (.cells #[.int .u8 8] 5)) fun en W' => ∃ F' P', en = .returned (.tuple #[.agg (plC 0 47 47).toArray, .int .i64 0]) /\ T3 Z w W' g gd gp gt 200 645 60 8600 24 F' (F8 138) (fun k => k = p) /\ Only (fun k => ¬ k = p) W W' /\ RowP 138 1 F' P' /\ P' 0 = ⟨4, frmL (keyL 1) [7] ++ frmL (keyL 2) [8], 94⟩) := lH (fun g gd gp gt W p F P t r h0 => by
  have t1 := t.alloc (.cells #[.int .u8 8] 5)
  have hd : (P 0).d.length = 47 := by rw [h0]; exact frmL_len _ _ l1
  refine (radd_old K t1 (by omega) (by omega) (by omega) (keyL 2) l2 (some ⟨W.heap.size, 0, none⟩) 1 1 [8] (HasB.row W [8] 5) (by omega) (by simp [maxLen]) (fun a ha _ => .inr (by injection ha with ha; rw [<- ha])) r (by simp) (k := 0) (by omega) (by rw [hd]; simp) (fun j hj => absurd hj (by omega))).mono ?_
  rintro en W' ⟨F', P', ⟨he, t', y'⟩, r', hP⟩
  rw [hd] at he
  refine ⟨F', P', he, t'.less (fun k hk => .inl hk), ((Only.refl _ W).alloc _).trans (y'.mono (fun k _ hk he => hk (.inl he))), r', ?_⟩
  rw [hP, h0]; rfl)
 have CG : Hid (∀ g gd gp gt W (E : Nat -> Prop) F P, T3 Z w W g gd gp gt 200 645 60 8600 24 F (F8 138) E -> RowP 138 1 F P -> P 0 = ⟨4, frmL (keyL 1) [7] ++ frmL (keyL 2) [8], 94⟩ -> Calls Tryz.prog 31 #[.pointer (some ⟨gt, 0, none⟩), .agg (plC 0 47 47).toArray, .agg (cellsB (keyL 2)).toArray] W fun en W' => ∃ A m c', en = .returned (.tuple #[.slice A m c', .int .i64 0]) /\ OwnB W' W.heap.size (.slice A m c') [8] /\ Below w.heap.size w W' /\ Only (fun k => ¬ E k) W W') := lH (fun g gd gp gt W E F P t r h0 => by
  have f1 : (frmL (keyL 1) [7]).length = 47 := frmL_len _ _ l1
  have f2 : (frmL (keyL 2) [8]).length = 47 := frmL_len _ _ l2
  have := pget_fr K t (by omega) r.inv (k := 0) (at_ := 47) (by omega) (by rw [h0]; show 4 ≠ 0; omega) (keyL 2) [8] l2 (by simp) (by rw [h0]; simp [f1, f2]) (by
   rw [h0]
   show (((frmL (keyL 1) [7] ++ frmL (keyL 2) [8]).drop 47).take 47) = _
   rw [show 47 = (frmL (keyL 1) [7]).length from f1.symm, List.drop_left, f1, List.take_of_length_le (by omega)])
  refine this.mono ?_
  rintro en W' ⟨A, m, c', he, o, t', y'⟩
  exact ⟨A, m, c', he, o, t'.up, y'⟩)
 obtain ⟨q1, hq1⟩ : ∃ q, keyL 1 = q := ⟨_, rfl⟩
 obtain ⟨q2, hq2⟩ : ∃ q, keyL 2 = q := ⟨_, rfl⟩
 rw [hq1] at K1 CA1 CA2 CG
 rw [hq2] at K2 CA2 CG
 clear hq1 hq2 l1 l2
 go_enter Tryz.func7, Tryz.ntmps7
 go_upto_region 4 with (first
  | (go_at_call 9; refine CB.out.mono ?_; rintro e w1 ⟨g, gd, gp, gt, rfl, t1⟩
     have T1 := lH (t3_begun t1)
     clear t1))
 clear CB
 go_upto_region 5 with (first
  | (go_at_call 17; refine (K1.out _).mono ?_; rintro e w2 ⟨rfl, b2⟩
     have CA := lH (CA1.out g gd gp gt w2 (T1.out.up1 b2))
     clear b2)
  | (go_at_call 18; refine CA.out.mono ?_; rintro e w3 ⟨F3, P3, rfl, t3, r3, h3⟩
     have T3' := lH t3
     have R3 := lH r3
     have H3 := lH h3
     clear t3 r3 h3)
  | (refine wpList_store_row8 rfl 44 (.tmp 3) (.tmp 20) rfl w3.heap.size (plC 0 0 47).toArray rfl rfl 44 _ (heap_alloc_new w3 _) infoPlace rfl (pl_ones _ _ _) ?_))
 have z4 := pl_box w3 0 0 47
 have b4 := pl_below w3 0 0 47
 obtain ⟨w4, hw4⟩ : ∃ w4, ((w3.alloc (.cells #[.int .i64 0, .int .i64 0, .int .i64 0] 44)).setRow w3.heap.size (plC 0 0 47).toArray) = w4 := ⟨_, rfl⟩
 rw [hw4] at z4 b4
 rw [hw4]
 obtain ⟨p, hp⟩ : ∃ p, w3.heap.size = p := ⟨_, rfl⟩
 have T4 : Hid (T3 Z w w4 g gd gp gt 200 645 60 4300 12 F3 (F8 138) (fun k => k = p)) := lH (T3'.out.add (Only.of_below b4 (Nat.le_refl _)) (fun k hk => .inr ⟨by omega, by rw [hk, <- hp]; exact (Array.getElem?_eq_some_iff.1 z4).1⟩))
 rw [hp] at z4
 have Z4 := lH z4
 simp only [hp]
 clear hw4 hp z4 b4 CA1 CA T1 T3' K1
 go_upto_region 6 with (first
  | (go_at_call 17; refine (K2.out _).mono ?_; rintro e w5 ⟨rfl, b5⟩
     have CA := lH (CA2.out g gd gp gt w5 p F3 P3 (T4.out.up1 b5) R3.out H3.out)
     have Z5 := lH ((b5.block p (Array.getElem?_eq_some_iff.1 Z4.out).1).trans Z4.out)
     clear b5)
  | (go_at_call 18; refine CA.out.mono ?_; rintro e w6 ⟨F6, P6, rfl, t6, y6, r6, h6⟩
     have T6 := lH t6
     have Y6 := lH y6
     have R6 := lH r6
     have H6 := lH h6
     clear t6 y6 r6 h6)
  | (refine wpList_store_row8 rfl 44 (.tmp 5) (.tmp 27) rfl w6.heap.size (plC 0 47 47).toArray rfl rfl 44 _ (heap_alloc_new w6 _) infoPlace rfl (pl_ones _ _ _) ?_))
 have z7 := pl_box w6 0 47 47
 have b7 := pl_below w6 0 47 47
 obtain ⟨w7, hw7⟩ : ∃ w7, ((w6.alloc (.cells #[.int .i64 0, .int .i64 0, .int .i64 0] 44)).setRow w6.heap.size (plC 0 47 47).toArray) = w7 := ⟨_, rfl⟩
 rw [hw7] at z7 b7
 rw [hw7]
 obtain ⟨p2, hp2⟩ : ∃ p, w6.heap.size = p := ⟨_, rfl⟩
 have zp6 := (Y6.out.block p (Array.getElem?_eq_some_iff.1 Z5.out).1 (fun h => h rfl)).trans Z5.out
 have zp7 := (b7.block p (Array.getElem?_eq_some_iff.1 zp6).1).trans zp6
 have T7 : Hid (T3 Z w w7 g gd gp gt 200 645 60 8600 24 F6 (F8 138) (fun k => k = p \/ k = p2)) := lH (T6.out.add (Only.of_below b7 (Nat.le_refl _)) (fun k hk => hk.imp id (fun hk => ⟨by omega, by rw [hk, <- hp2]; exact (Array.getElem?_eq_some_iff.1 z7).1⟩)))
 rw [hp2] at z7
 have Z7 := lH z7
 have ZP := lH zp7
 simp only [hp2]
 clear hw7 hp2 z7 b7 zp6 zp7 CA2 CA T4 T6 Z4 Z5 Y6
 have LP : Hid (∀ Y : World, Y.heap[p2]? = some (plB 0 47 47) /\ Y.heap[p]? = some (plB 0 0 47) -> (loadVar 44 ⟨p2, 0, none⟩).run Tryz.prog Y = .ok (.agg (plC 0 47 47).toArray) Y) := lH (fun Y hY => ld_place hY.1)
 refine wp_region_held_drew (S := fun Y => Y.heap[p2]? = some (plB 0 47 47) /\ Y.heap[p]? = some (plB 0 0 47)) (by kernel_rfl) ⟨Z7.out, ZP.out⟩ (fun hHeld => ?_)
 refine tk9 (i := 0) (h := ?_)
 try simp only [aP,aN,aS,aZ,aC]
 refine tk9 (i := 1) (hy := (yieldsIf_loadG (by rfl) 44 (.tmp 5) rfl ⟨p2, 0, none⟩ rfl (.agg (plC 0 47 47).toArray) (fun Y hY => LP.out Y hY))) (h := ?_)
 try simp only [aP,aN,aS,aZ,aC]
 refine rd9 (i := 2) (h := fun K hK => ?_)
 go_simp
 refine (K2.out _).mono ?_
 rintro e w8 ⟨rfl, b8⟩
 have hS2 := And.intro ((b8.block p2 (Array.getElem?_eq_some_iff.1 hHeld.1).1).trans hHeld.1) ((b8.block p (Array.getElem?_eq_some_iff.1 hHeld.2).1).trans hHeld.2)
 have T8 := lH ((T7.out.up1 (Below.refl w7.heap.size w7).drew).up1 b8)
 clear b8
 refine hK _ _ hS2 (fun hH2 => ?_)
 clear hK K
 try simp only [aP,aN,aS,aZ,aC]
 refine rd9 (i := 3) (h := fun K hK => ?_)
 go_simp
 refine (CG.out g gd gp gt w8 _ F6 P6 T8.out R6.out H6.out).mono ?_
 rintro e w9 ⟨A9, m9, c9, rfl, o9, u9, y9⟩
 have hS3 := And.intro ((y9.block p2 (Array.getElem?_eq_some_iff.1 hH2.1).1 (fun h => h (.inr rfl))).trans hH2.1) ((y9.block p (Array.getElem?_eq_some_iff.1 hH2.2).1 (fun h => h (.inl rfl))).trans hH2.2)
 have O9 := lH o9
 have U9 := lH u9
 clear o9 u9 y9
 refine hK _ _ hS3 (fun hH3 => ?_)
 clear hK K
 try simp only [aP,aN,aS,aZ,aC]
 refine tk9 (i := 4) (h := ?_)
 try simp only [aP,aN,aS,aZ,aC]
 refine tk9 (i := 5) (h := ?_)
 try simp only [aP,aN,aS,aZ,aC]
 refine tk9 (i := 6) (h := ?_)
 try simp only [aP,aN,aS,aZ,aC]
 refine rd9 (i := 7) (h := fun K hK => ?_)
 go_simp
 have hS7 := hH3
 refine hK _ _ hS7 (fun hH7 => ?_)
 clear hK K
 try simp only [aP,aN,aS,aZ,aC]
 refine rd9 (i := 8) (h := fun K hK => ?_)
 go_simp
 have hS8 := hH3
 refine hK _ _ hS8 (fun hH8 => ?_)
 clear hK K
 try simp only [aP,aN,aS,aZ,aC]
 refine wpAnyH_done (by kernel_rfl) ?_ _
 have L3 := lH (ld_place hH3.2)
 have L5 := lH (ld_place hH3.1)
 have K9 := lH (run_conv (P := Tryz.prog) Tryz.underlying34 Tryz.underlying5 Tryz.underlying9 _ A9 m9 c9 [8] O9.out.has)
 have E1 := lH (eql_pl 0 0 47)
 have E2 := lH (eql_pl 0 47 47)
 clear LP Z7 ZP T7 T8 CG K2 R6 H6 R3 H3
 go_wp2_with (first
  | (refine wpList_loadG (by rfl) 44 (.tmp 3) rfl ⟨p, 0, none⟩ rfl _ L3.out ?_)
  | (refine wpList_loadG (by rfl) 44 (.tmp 5) rfl ⟨p2, 0, none⟩ rfl _ L5.out ?_)
  | (refine wpList_convG rfl 34 9 (.tmp 57) rfl (.slice A9 m9 c9) (.string ⟨#[8]⟩) rfl K9.out ?_))
 go_ret
 exact ⟨rfl, U9.out⟩
section
variable {P : Program} {ops : Array Oper} {md : Region.Mode} {Q : Exit -> Act -> World -> Prop} {S : World -> Prop}
theorem via2 {A : Nat -> Nat -> Act} {X : Nat -> Nat -> World -> Prop} {fuel : Nat} {listed : Array Bool} {a : Act} {w : World} (main : wpAnyH P md ops (Via (fun a w => ∃ p s, a = A p s /\ X p s w) Q) S fuel listed a w) (hR : ∀ p s w, X p s w -> Q .normal (A p s) w) : wpAnyH P md ops Q S fuel listed a w :=
 wpAnyH_via (fun a w h => by obtain ⟨p, s, rfl, h⟩ := h; exact hR p s w h) fuel listed a w main
end
structure ASt (Z : DK) (w0 W0 : World) (g gd gp gt n V r q c : Nat) (F C : Nat -> List UInt8) (E0 : Nat -> Prop) (N : Nat) (b : List UInt8) (M : Option (Option Addr)) (P : Option Nat) (W : World) : Prop where
 t : T3 Z w0 W g gd gp gt n V r q c F C (fun k => E0 k \/ ((∃ a, M = some (some a) /\ a.block = k) \/ P = some k))
 m : ∀ A, M = some A -> HasB W W.heap.size A N b
 p : ∀ k, P = some k -> W.heap[k]? = some (plB 0 0 0)
 y : Only (fun k => ¬ E0 k) W0 W
section
variable {Z : DK} {w0 W0 W W' : World} {g gd gp gt n V r q c q2 c2 : Nat} {F F2 C : Nat -> List UInt8} {E0 : Nat -> Prop} {N : Nat} {b : List UInt8} {M : Option (Option Addr)} {P : Option Nat}
theorem ASt.start (t : T3 Z w0 W g gd gp gt n V r q c F C E0) : ASt Z w0 W g gd gp gt n V r q c F C E0 N b none none W :=
 ⟨t.less (fun k hk => hk.elim id (fun h => h.elim (fun ⟨a, h, _⟩ => by cases h) (fun h => by cases h))), fun A h => (by cases h), fun k h => (by cases h), Only.refl _ W⟩
theorem ASt.below (a : ASt Z w0 W0 g gd gp gt n V r q c F C E0 N b M P W) (h : Below W.heap.size W W') : ASt Z w0 W0 g gd gp gt n V r q c F C E0 N b M P W' :=
 ⟨a.t.up1 h, fun A hA => (a.m A hA).on h, fun k hk => (h.block k (Array.getElem?_eq_some_iff.1 (a.p k hk)).1).trans (a.p k hk), a.y.trans (Only.of_below h (Nat.le_refl _))⟩
theorem ASt.box (a : ASt Z w0 W0 g gd gp gt n V r q c F C E0 N b M none W) : ASt Z w0 W0 g gd gp gt n V r q c F C E0 N b M (some W.heap.size) (W.alloc (.cells #[.int .i64 0, .int .i64 0, .int .i64 0] 44)) := by
 have h : Below W.heap.size W (W.alloc (.cells #[.int .i64 0, .int .i64 0, .int .i64 0] 44)) := (Below.refl _ _).alloc (Nat.le_refl _) _
 refine ⟨a.t.add (Only.of_below h (Nat.le_refl _)) (fun k hk => ?_), fun A hA => (a.m A hA).on h, fun k hk => ?_, a.y.trans (Only.of_below h (Nat.le_refl _))⟩
 · rcases hk with hk | hk | hk
   · exact .inl (.inl hk)
   · exact .inl (.inr (.inl hk))
   · injection hk with hk
     exact .inr ⟨by omega, by rw [<- hk]; simp⟩
 · injection hk with hk
   rw [<- hk]
   exact heap_alloc_new W _
theorem ASt.data (a : ASt Z w0 W0 g gd gp gt n V r q c F C E0 N b none P W) (h : Below W.heap.size W W') {A : Option Addr} (hA : HasB W' W'.heap.size A N b) (hb : ∀ x, A = some x -> W.heap.size <= x.block /\ x.block < W'.heap.size) : ASt Z w0 W0 g gd gp gt n V r q c F C E0 N b (some A) P W' := by
 refine ⟨a.t.add (Only.of_below h (Nat.le_refl _)) (fun k hk => ?_), fun A' hA' => (by injection hA' with e; rw [<- e]; exact hA), fun k hk => (h.block k (Array.getElem?_eq_some_iff.1 (a.p k hk)).1).trans (a.p k hk), a.y.trans (Only.of_below h (Nat.le_refl _))⟩
 rcases hk with hk | ⟨x, hx, rfl⟩ | hk
 · exact .inl (.inl hk)
 · injection hx with hx
   exact .inr (hb x hx)
 · exact .inl (.inr (.inr hk))
theorem ASt.call (a : ASt Z w0 W0 g gd gp gt n V r q c F C E0 N b M P W) (t : T3 Z w0 W' g gd gp gt n V r q2 c2 F2 C (fun k => E0 k \/ ((∃ a, M = some (some a) /\ a.block = k) \/ P = some k))) (y : Only (fun k => ¬ (E0 k \/ ((∃ a, M = some (some a) /\ a.block = k) \/ P = some k))) W W') : ASt Z w0 W0 g gd gp gt n V r q2 c2 F2 C E0 N b none P W' :=
 ⟨t.less (fun k hk => hk.imp id (fun h => h.elim (fun ⟨a, h, _⟩ => (by cases h)) .inr)), fun A h => (by cases h), fun k hk => (y.block k (Array.getElem?_eq_some_iff.1 (a.p k hk)).1 (fun h => h (.inr (.inr hk)))).trans (a.p k hk), a.y.trans (y.mono (fun k _ hk he => hk (.inl he)))⟩
theorem ASt.stored {p : Nat} (a : ASt Z w0 W0 g gd gp gt n V r q c F C E0 N b none (some p) W) (hE : ∀ k, E0 k -> k < W0.heap.size) (hp : W0.heap.size <= p) (x y z : Int) : (W.setRow p (plC x y z).toArray).heap[p]? = some (plB x y z) /\ T3 Z w0 (W.setRow p (plC x y z).toArray) g gd gp gt n V r q c F C (fun k => E0 k \/ k = p) /\ Only (fun k => ¬ E0 k) W0 (W.setRow p (plC x y z).toArray) := by
 have z0 := a.p p rfl
 have yR : Only (fun k => k = p) W (W.setRow p (plC x y z).toArray) := Only.setRow (S := fun k => k = p) (Only.refl _ W) (g := p) rfl _
 refine ⟨setRow_heap _ _ _ _ 44 _ z0, a.t.add (yR.mono (fun k _ hk => .inl (.inr (.inr (by rw [hk]))))) (fun k hk => .inl (hk.imp id (fun h => .inr (by rw [h])))), a.y.trans (yR.mono (fun k _ hk he => by have := hE k he; omega))⟩
end
theorem Via.mk {R : Act -> World -> Prop} {Q : Exit -> Act -> World -> Prop} {a : Act} {w : World} (h : R a w) : Via R Q .normal a w := h
theorem step_mkU8 {ops : Array Oper} {o : Oper} {a : Act} {w : World} {K : Act -> World -> Prop} {Q : Exit -> Act -> World -> Prop} {F : Prop} (hw : Region.wanted o (yielded ops a.tmps) = true) (l c : Operand) (hop : o.op = Op.makeSlice 34 l c)
 (X : Int) (n : Nat) (hX : X = (n : Int)) (hl : a.eval l = .int .i64 X) (hc : a.eval c = .int .i64 X) (hn : n <= 8192)
 (hK : K (a.put o.dst (.slice (some ⟨w.heap.size, 0, none⟩) n n)) (w.alloc (.cells (cellsB (zer n)).toArray 5))) :
 if Region.wanted o (yielded ops a.tmps) = true then Oper.wp Tryz.prog o a w K Q else F := by
 rw [if_pos hw]
 subst hX
 have hi : (Tryz.prog.info? 5).map (fun i => (i.zero, i.size, i.bytes)) = some (some (.int .u8 0), 1, 1) := by kernel_rfl
 obtain ⟨i, h2, h3, h4, h5⟩ := info_parts hi
 have hrun := run_make (P := Tryz.prog) w 34 5 i _ Tryz.underlying34 h2 h3 .i64 .i64 (n : Int) (n : Int) (by omega) (by omega) (by rw [h5]; omega) (by omega)
 rw [Int.toNat_natCast, h4, show madeCells (Value.int .u8 0).cells (n * 1) = (cellsB (zer n)).toArray from by
  apply Array.toList_inj.1
  rw [show (Value.int .u8 0).cells = #[Value.int .u8 0] from rfl, toList_madeCells_one]
  simp [cellsB, zer]] at hrun
 unfold Oper.wp execOp
 simp only [hop, hl, hc, Sem.run_bind, Sem.run_pure, Result.andThen_ok, hrun]
 exact hK
theorem rsize_any (z : Nat) (hz : z <= 4200) (w : World) : Calls Tryz.prog 33 #[.int .i64 (z : Int)] w fun e w' => e = .returned (.int .i64 ((z + 46 : Nat) : Int)) /\ w = w' := by
 have h1 : ¬ (z : Int) < 0 := by omega
 have h2 : ¬ (z : Int) > 4200 := by omega
 have e : (46 : Int) + (z : Int) = ((z + 46 : Nat) : Int) := by omega
 go_enter Tryz.func33, Tryz.ntmps33
 go_wp2_with fail
 go_ret
 exact ⟨rfl, rfl⟩
def FullS (h S ea i : Nat) (F : Nat -> List UInt8) : Prop :=
 ∃ k c m P, i = ea * k + c /\ c < ea /\ m = (if c = 0 then k else k + 1) /\ RowP h m F P /\ (∀ j, j < k -> (P j).d.length = ea * S) /\ (c ≠ 0 -> (P k).d.length = c * S)
theorem divmod_of {ea k c i : Nat} (h : i = ea * k + c) (hc : c < ea) : i / ea = k /\ i % ea = c := by
 subst h
 exact ⟨by rw [Nat.mul_add_div (by omega), Nat.div_eq_of_lt hc, Nat.add_zero], by rw [Nat.mul_add_mod, Nat.mod_eq_of_lt hc]⟩
section
variable {Z : DK} {w0 W W' : World} {g gd gp gt n V r q c q2 c2 : Nat} {F G C : Nat -> List UInt8} {E E' : Nat -> Prop} {P : Nat -> PkM}
theorem full_step (K : FK) (hV : V <= 1073000000) (hq : q + 4300 < 1073741824) (hc : c + 11 < 40) (key : List UInt8) (hkey : key.length = 32) (z S ea pk i : Nat) (hz : z <= 4200) (hS : S = z + 46) (h1 : ea * S <= 8192) (h2 : 8192 < (ea + 1) * S) (hpk : pk < 64) (hh : 4 + 16 * pk <= n - 2 - r) (hi : i < ea * pk) (hf : FullS (n - 2 - r) S ea i F) :
 ∀ W E A, T3 Z w0 W g gd gp gt n V r q c F C E -> HasB W W.heap.size A z (zer z) -> (∀ a, A = some a -> 0 < z -> E a.block) -> Calls Tryz.prog 18 #[.pointer (some ⟨gt, 0, none⟩), .agg (cellsB key).toArray, .slice A z z] W fun en W' => ∃ F', RetPl Z w0 W g gd gp gt n V r (q + 4300) (c + 12) F' C E ((i / ea : Nat) : Int) ((i % ea * S : Nat) : Int) (S : Int) 0 en W' /\ FullS (n - 2 - r) S ea (i + 1) F' := by
 obtain ⟨k, d, m, P, hik, hd, hm, rw_, hfull, hpart⟩ := hf
 obtain ⟨e1, e2⟩ := divmod_of hik hd
 rw [e1, e2]
 have zl : (zer z).length = z := by simp [zer]
 have hk : k < pk := by
  apply Nat.lt_of_not_le
  intro hle
  have := Nat.mul_le_mul_left ea hle
  omega
 intro W E A t hA hE
 by_cases h0 : d = 0
 · rw [if_pos h0] at hm
   subst hm
   have h3 : ∀ j, j < m -> 8192 < (P j).d.length + ((zer z).length + 46) := fun j hj => by
    rw [hfull j hj, zl, <- hS]; rw [Nat.succ_mul] at h2; exact h2
   refine (radd_new K t hV hq hc key hkey A z z (zer z) hA (Nat.le_refl _) (by simp [maxLen]; omega) hE rw_ (by omega) (by omega) (by omega) h3).mono ?_
   rintro en W' ⟨F', P', hr, rw2, hP⟩
   rw [zl, <- hS] at hr
   refine ⟨F', by rw [h0, Nat.zero_mul]; exact hr, ?_⟩
   by_cases hone : ea = 1
   · refine ⟨m + 1, 0, m + 1, P', by rw [hik, h0, hone]; omega, by omega, by simp, rw2, fun j hj => ?_, fun h => absurd rfl h⟩
     rw [hP]
     unfold updP
     split
     · show (frmL key (zer z)).length = _
       rw [frmL_len _ _ hkey, zl, hone, Nat.one_mul, hS]; omega
     · exact hfull j (by omega)
   · refine ⟨m, 1, m + 1, P', by omega, by omega, by simp, rw2, fun j hj => ?_, fun _ => ?_⟩
     · rw [hP]
       unfold updP
       rw [if_neg (by omega)]
       exact hfull j hj
     · rw [hP]
       unfold updP
       rw [if_pos rfl]
       show (frmL key (zer z)).length = _
       rw [frmL_len _ _ hkey, zl, Nat.one_mul, hS]; omega
 · rw [if_neg h0] at hm
   subst hm
   have h3 : ∀ j, j < k -> 8192 < (P j).d.length + ((zer z).length + 46) := fun j hj => by
    rw [hfull j hj, zl, <- hS]; rw [Nat.succ_mul] at h2; exact h2
   have hp := hpart h0
   have h4 : (d + 1) * S <= ea * S := Nat.mul_le_mul_right S (by omega)
   refine (radd_old K t hV hq hc key hkey A z z (zer z) hA (Nat.le_refl _) (by simp [maxLen]; omega) hE rw_ (by omega) (k := k) (by omega) (by rw [hp, zl, <- hS]; rw [Nat.succ_mul] at h4; omega) h3).mono ?_
   rintro en W' ⟨F', P', hr, rw2, hP⟩
   rw [zl, <- hS, hp] at hr
   refine ⟨F', hr, ?_⟩
   have hlen : (P' k).d.length = (d + 1) * S := by
    rw [hP]
    unfold updP
    rw [if_pos rfl]
    show ((P k).d ++ frmL key (zer z)).length = _
    rw [List.length_append, frmL_len _ _ hkey, hp, zl, Nat.succ_mul, hS]; omega
   have hoth : ∀ j, j < k -> (P' j).d.length = ea * S := fun j hj => by
    rw [hP]
    unfold updP
    rw [if_neg (by omega)]
    exact hfull j hj
   by_cases hone : d + 1 = ea
   · refine ⟨k + 1, 0, k + 1, P', by rw [hik, Nat.mul_succ]; omega, by omega, by simp, rw2, fun j hj => ?_, fun h => absurd rfl h⟩
     by_cases hjk : j = k
     · rw [hjk, hlen, hone]
     · exact hoth j (by omega)
   · exact ⟨k, d + 1, k + 1, P', by omega, by omega, by simp, rw2, hoth, fun _ => hlen⟩
theorem full_last (K : FK) (hV : V <= 1073000000) (hq : q + 4300 < 1073741824) (hc : c + 11 < 40) (key : List UInt8) (hkey : key.length = 32) (z S ea pk : Nat) (hz : z <= 4200) (hS : S = z + 46) (h2 : 8192 < (ea + 1) * S) (hpk : pk < 64) (hh : n - 2 - r < 4 + 16 * pk + 16) (hea : 1 <= ea) (hf : FullS (n - 2 - r) S ea (ea * pk) F) :
 ∀ W E A, T3 Z w0 W g gd gp gt n V r q c F C E -> HasB W W.heap.size A z (zer z) -> (∀ a, A = some a -> 0 < z -> E a.block) -> Calls Tryz.prog 18 #[.pointer (some ⟨gt, 0, none⟩), .agg (cellsB key).toArray, .slice A z z] W fun en W' => ∃ F', RetPl Z w0 W g gd gp gt n V r (q + 4300) (c + 12) F' C E 0 0 0 7 en W' /\ ∃ P, PInv (n - 2 - r) F' P /\ NoPk P (pk : Int) := by
 obtain ⟨k, d, m, P, hik, hd, hm, rw_, hfull, hpart⟩ := hf
 obtain ⟨e1, e2⟩ := divmod_of hik hd
 rw [Nat.mul_div_cancel_left pk (by omega)] at e1
 rw [Nat.mul_mod_right] at e2
 subst e1
 subst e2
 rw [if_pos rfl] at hm
 subst hm
 intro W E A t hA hE
 have zl : (zer z).length = z := by simp [zer]
 have h3 : ∀ j, j < m -> 8192 < (P j).d.length + ((zer z).length + 46) := fun j hj => by
  rw [hfull j hj, zl, <- hS]; rw [Nat.succ_mul] at h2; exact h2
 refine (radd_none K t hV hq hc key hkey A z z (zer z) hA (Nat.le_refl _) (by simp [maxLen]; omega) hE rw_ (by omega) (by omega) (by omega) h3).mono ?_
 intro en W' hr
 exact ⟨F, hr, P, rw_.inv, .inr (.inr (by rw [Int.toNat_natCast]; exact rw_.no m (Nat.le_refl _) hpk))⟩
end
theorem FullS.nil {h S ea : Nat} (hh : h <= 4096 /\ 8 <= h) (hea : 1 <= ea) : FullS h S ea 0 (F8 h) :=
 ⟨0, 0, 0, _, rfl, by omega, by simp, RowP.nil hh, fun j hj => absurd hj (by omega), fun h => absurd rfl h⟩
end Go.Proofs.YthoebjekkfhhgaaGreat
