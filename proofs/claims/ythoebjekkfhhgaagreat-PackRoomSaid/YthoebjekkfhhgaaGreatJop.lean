/-
  Own work.
-/
import Derived.Test.YthoebjekkfhhgaaGreatCp9
import Derived.Test.YthoebjekkfhhgaaGreatJlp
import Derived.Test.YthoebjekkfhhgaaGreatJ3
set_option linter.unusedVariables false
set_option linter.unusedSimpArgs false
set_option maxRecDepth 100000
set_option maxHeartbeats 8000000
namespace Go.Proofs.YthoebjekkfhhgaaGreat
open Go.RowKit Go.Maps
theorem ldK_ok {m : RM} {n h : Nat} {k : Mk} {s : List UInt8} (hd : ∀ q, (lst (m.readS n (k.inRing (1 + q) : Nat))).length = 512) : ∀ (q : Nat) (l : List Ch), ldK m n k h s q = some l -> l.length = q /\ ∀ c ∈ l, c.home < h /\ c.data.length = 512
 | 0, l, e => by
   simp only [ldK, Option.some.injEq] at e
   subst e
   exact ⟨rfl, fun c hc => absurd hc (by simp)⟩
 | q + 1, l, e => by
   rw [ldK] at e
   cases h1 : ldK m n k h s q with
   | none => rw [h1] at e; cases e
   | some l0 =>
     obtain ⟨i1, i2⟩ := ldK_ok hd q l0 h1
     rw [h1] at e
     simp only [] at e
     split at e
     · cases e
     · rename_i hn
       injection e with e
       subst e
       refine ⟨by rw [List.length_append, i1]; rfl, fun c hc => ?_⟩
       rcases List.mem_append.1 hc with hc | hc
       · exact i2 c hc
       · rw [List.mem_singleton] at hc
         subst hc
         refine ⟨Nat.lt_of_not_le (fun hh => hn (.inr (.inl hh))), over_512 (hd q) ?_⟩
         unfold sub
         rw [List.length_take]
         omega
theorem ldL_ok {m : RM} {n h : Nat} {k : Mk} (hd : ∀ q, (lst (m.readS n (k.inRing (1 + q) : Nat))).length = 512) : (ldL m n k h).length <= 40 /\ ∀ c ∈ ldL m n k h, c.home < h /\ c.data.length = 512 := by
 unfold ldL
 simp only []
 split
 · exact ⟨by simp, fun c hc => absurd hc (by simp)⟩
 · rename_i hn
   cases h1 : ldK m n k h (lst (m.readS n (k.inRing 0 : Nat))) (num (sub (lst (m.readS n (k.inRing 0 : Nat))) 8 2)) with
   | none => exact ⟨by simp, fun c hc => absurd hc (by simp)⟩
   | some l =>
     obtain ⟨i1, i2⟩ := ldK_ok hd _ l h1
     refine ⟨?_, i2⟩
     show l.length <= 40
     omega
theorem rep_go {m : RM} {n f : Nat} {j : JM} (h : ldL m n j.k (j.homes n) ≠ []) : rep m n (f + 1) j = rep m n f (j.take (ldL m n j.k (j.homes n))) := by rw [rep, if_neg h]
theorem rep_end {m : RM} {n f : Nat} {j : JM} (h : ldL m n j.k (j.homes n) = []) : rep m n f j = j := by
 cases f with
 | zero => rfl
 | succ f => rw [rep, if_pos h]
def jop (k : Mk) (m : RM) (n : Nat) : JM := ⟨k, m.powers, 0, List.replicate (n - 2 - k.ring) emp⟩
def tnOf (W : World) (g : Nat) : Nat := match W.cell? ⟨g, 3, none⟩ with
 | some (.int _ z) => z.toNat
 | _ => 0
section
variable {Z : DK} {w w' W W' : World} {g gd gp n : Nat} {S T : Nat -> Prop} {e : Int} {j : JM} {m : RM} {p : Pt}
theorem JO.tn (h : JO w g gd gp n e j) : tnOf w g = j.k.turn := by
 unfold tnOf
 rw [h.c3]
 rfl
def LeftO (Z : DK) (w : World) (g gd gp n : Nat) (S : Nat -> Prop) (p : Pt) (j : JM) (W : World) : Prop :=
 ∃ S2, Z.D W gd S2 n p.m /\ (∀ k, S2 k -> S k \/ w.heap.size <= k) /\ JO W g gd gp n p.e j /\ Only S w W /\ ¬ S2 g /\ ¬ S2 gp /\ w.heap.size <= g /\ w.heap.size <= gp
theorem open_go (d : Z.D w gd S n m) (ok : m.Ok n) (E : Int) (hE : (nwP ⟨m, 0⟩ n 2).e = E) (K : Mk) (hK : nwM ⟨m, 0⟩ n 2 = K) (h0 : E = 0) (hK0 : K.num ≠ 0) (live : m.readE n 0 = 0) (okJ : (jop K m n).Ok n) (ht : K.turn <= 4611686018427387904) (F : Nat) (hF : F <= 2000) (hfin : ldL m n (rep m n F (jop K m n)).k ((rep m n F (jop K m n)).homes n) = []) (hw : m.wrote <= 1073730000) :
 Calls Tryz.prog 69 #[.pointer (some ⟨gd, 0, none⟩)] w (fun en W' => (ckE ⟨m, 0⟩ n (rep m n F (jop K m n)) ≠ 0 -> en = .returned (.tuple #[.pointer none, .int .i64 (ckE ⟨m, 0⟩ n (rep m n F (jop K m n)))]) /\ LeftF Z w gd S n (ckP ⟨m, 0⟩ n (rep m n F (jop K m n))).m W') /\ (ckE ⟨m, 0⟩ n (rep m n F (jop K m n)) = 0 -> ∃ g gp, en = .returned (.tuple #[.pointer (some ⟨g, 0, none⟩), .int .i64 0]) /\ LeftO Z w g gd gp n S (ckP ⟨m, 0⟩ n (rep m n F (jop K m n))) (ckJ ⟨m, 0⟩ n (rep m n F (jop K m n))) W')) := by
 have n2 := ok.n2
 have CLv := lH (Z.lives_q d ok)
 have hmm : ∀ W : World, (Instr.makeMap 140 none).run Tryz.prog W = .ok (.map (some W.heap.size)) (W.alloc (.map #[] 0)) := fun W => by simp [Instr.makeMap, go_sem, Result.andThen]
 obtain ⟨mp, hmp⟩ : ∃ mp, m.powers = mp := ⟨_, rfl⟩
 obtain ⟨w2, hw2⟩ : ∃ w2, (w.alloc (.map #[] 0)).alloc (.cells #[.pointer (some ⟨gd, 0, none⟩), .int .i64 0, .int .u64 0, .int .u64 0, .int .u32 0, .int .u32 0, .int .i64 (mp : Int), .int .i64 0, .map (some w.heap.size)] 142) = w2 := ⟨_, rfl⟩
 have hb : Below w.heap.size w w2 := by rw [<- hw2]; exact ((Below.refl _ _).alloc (Nat.le_refl _) _).alloc (by simp) _
 have h2 : w2.heap[w.heap.size + 1]? = some (.cells #[.pointer (some ⟨gd, 0, none⟩), .int .i64 0, .int .u64 0, .int .u64 0, .int .u32 0, .int .u32 0, .int .i64 (mp : Int), .int .i64 0, .map (some w.heap.size)] 142 (0, 0)) := by
  rw [<- hw2]
  have := heap_alloc_new (w.alloc (.map #[] 0)) (.cells #[.pointer (some ⟨gd, 0, none⟩), .int .i64 0, .int .u64 0, .int .u64 0, .int .u32 0, .int .u32 0, .int .i64 (mp : Int), .int .i64 0, .map (some w.heap.size)] 142)
  simpa using this
 have hsz : w2.heap.size = w.heap.size + 2 := by rw [<- hw2]; simp
 have m2 : w2.ownsMap Tryz.prog 3 secElem w.heap.size 0 (.map []) := by
  rw [<- hw2]
  exact ownsMap_only (S := fun _ => False) ⟨#[], 0, heap_alloc_new w _, ⟨by simp, MapKept.stamped_empty 0, by simp⟩, Nat.le_refl _, rfl⟩ (Only.of_below ((Below.refl _ _).alloc (Nat.le_refl _) _) (Nat.le_refl _)) (fun h => h)
 have d2 : Z.D w2 gd S n m := Z.only d (Only.of_below (S := fun _ => False) hb (Nat.le_refl _)) (fun _ _ h => h)
 have hS : ∀ k, S k -> k < w.heap.size := fun k hk => Z.lt d k hk
 have CNw := lH (newest_any (p := ⟨m, 0⟩) (g := w.heap.size + 1) d2 ok ⟨h2, rfl, rfl⟩ (fun hh => by have := hS _ hh; omega))
 rw [hK, show mkC K = #[.int .u64 (K.num : Int), .int .u64 (K.turn : Int), .int .u32 (K.pos : Int), .int .u32 (K.ring : Int)] from rfl] at CNw
 have HE := lH hE
 clear hE hK
 have H0 := lH h0
 obtain ⟨J, hJ⟩ : ∃ J, rep m n F (jop K m n) = J := ⟨_, rfl⟩
 have HJ := lH hJ
 rw [hJ] at hfin ⊢
 clear hJ
 obtain ⟨CE, hCE⟩ : ∃ CE, ckE ⟨m, 0⟩ n J = CE := ⟨_, rfl⟩
 have HCE := lH hCE
 rw [hCE]
 clear hCE
 have HK0 := lH hK0
 have hd : ∀ (k : Mk), k.ring + 10 <= n -> 8 <= k.ring -> ∀ q, (lst (m.readS n (k.inRing q : Nat))).length = 512 := fun k h1 h2 q => by
  have hlt := Nat.mod_lt (k.pos + q) (show 0 < k.ring by omega)
  have hxn : k.inRing q < n := by unfold Mk.inRing Mk.ahead; omega
  have hr : m.readE n (k.inRing q : Nat) = 0 := RM.readE_all live (by omega) (by omega)
  have q2 : (Pt.mk m 0).rdS n (k.inRing q : Nat) = lst (m.readS n (k.inRing q : Nat)) := Pt.rdS_ok hr rfl
  rw [<- q2]
  exact (Pt.mk m 0).rdS_len ok _
 have HD := lH hd
 have OK := lH ok
 have HL := lH live
 have HOKJ := lH okJ
 have HT := lH ht
 have HF := lH hF
 have HFI := lH hfin
 have HW := lH hw
 have HP := lH hmp
 clear h0 hK0 hd live okJ ht hF hfin hw
 have B2 := lH hb
 have M2 := lH m2
 have HS := lH hS
 have W2 := lH hw2
 rw [hmp] at CLv
 clear d ok hb h2 m2 d2 hS hw2
 go_enter Tryz.func69, Tryz.ntmps69
 go_upto_region 2 with (first
  | (go_at_call 107; refine CLv.out.mono ?_; rintro en w1 ⟨rfl, rfl⟩))
 rw [W2.out]
 clear W2
 go_upto_region 3 with (first
  | (go_at_call 108; refine CNw.out.mono ?_; rintro en w3 ⟨rfl, lp⟩
     obtain ⟨S', d', hs', b', ho'⟩ := lp
     have D3 := lH d'
     have S3 := lH hs'
     have B3 := lH b'.blk
     have O3 := lH ho'
     have f2 := frozen_of_row w3 _ 2 _ _ b'.blk
     have f3 := frozen_of_row w3 _ 3 _ _ b'.blk
     have f4 := frozen_of_row w3 _ 4 _ _ b'.blk
     have f5 := frozen_of_row w3 _ 5 _ _ b'.blk
     have c2 := cell_of_row w3 _ 2 _ _ (0, 0) b'.blk
     have c3 := cell_of_row w3 _ 3 _ _ (0, 0) b'.blk
     have c4 := cell_of_row w3 _ 4 _ _ (0, 0) b'.blk
     have c5 := cell_of_row w3 _ 5 _ _ (0, 0) b'.blk
     clear d' hs' b' ho'))
 clear f2 f3 f4 f5 c2 c3 c4 c5
 obtain ⟨g, hg⟩ : ∃ g, w.heap.size + 1 = g := ⟨_, rfl⟩
 rw [hg] at B3 O3 ⊢
 rw [HE.out] at B3
 generalize hw4 : World.setCell _ _ _ = w4
 have hlt3 : g < w3.heap.size := (Array.getElem?_eq_some_iff.1 B3.out).1
 have r1' := heap_setCell_same w3 g 2 _ 142 (.int .u64 (K.num : Int)) B3.out
 have r2' := heap_setCell_same _ g 3 _ 142 (.int .u64 (K.turn : Int)) r1'
 have r3' := heap_setCell_same _ g 4 _ 142 (.int .u32 (K.pos : Int)) r2'
 have r4' := heap_setCell_same _ g 5 _ 142 (.int .u32 (K.ring : Int)) r3'
 have ow : Only (fun k => k = g) w3 w4 := by rw [<- hw4]; exact ((((Only.refl _ w3).cell1 2 _).cell1 3 _).cell1 4 _).cell1 5 _
 rw [hw4] at r4'
 have blk4 : w4.heap[g]? = some (.cells (jC gd w.heap.size E (jop K m n)) 142 (0, 0)) := by
  rw [r4']
  unfold jC jop
  rw [hmp]
  rfl
 have BL4 := lH blk4
 have c40 : w4.cell? ⟨g, 0, none⟩ = some (.pointer (some ⟨gd, 0, none⟩)) := cell_of_row w4 g 0 _ _ (0, 0) blk4
 have c41 : w4.cell? ⟨g, 1, none⟩ = some (.int .i64 E) := cell_of_row w4 g 1 _ _ (0, 0) blk4
 have c42 : w4.cell? ⟨g, 2, none⟩ = some (.int .u64 (K.num : Int)) := cell_of_row w4 g 2 _ _ (0, 0) blk4
 have hng : ¬ S' g := fun hh => (S3.out g hh).elim (fun h => by have := HS.out g h; omega) (fun h => by omega)
 have D4 : Hid (Z.D w4 gd S' n m) := lH (by have q := Z.only D3.out ow (fun k hk e => hng (e ▸ hk)); rwa [nwP_m] at q)
 have S4 : Hid (∀ k, S' k -> S k \/ w.heap.size <= k) := lH (fun k hk => (S3.out k hk).imp id (fun h => by omega))
 have O4 : Hid (Only S w w4) := lH (((Only.of_below B2.out (Nat.le_refl _)).trans' O3.out (fun k hk hT => hT.elim id (fun h => by omega))).trans' ow (fun k hk hT => by (try dsimp only at hT); omega))
 have hngp : ¬ S' w.heap.size := fun hh => (S3.out _ hh).elim (fun h => by have := HS.out _ h; omega) (fun h => by omega)
 have M4 : Hid (w4.ownsMap Tryz.prog 3 secElem w.heap.size 0 (.map [])) := lH (ownsMap_only (ownsMap_only M2.out O3.out (fun hh => hh.elim (fun h => by have := HS.out _ h; omega) (fun h => by omega))) ow (show ¬ w.heap.size = g by omega))
 have hng' := lH hng
 have hngp' := lH hngp
 clear r1' r2' r3' r4' hw4 ow blk4 hng hngp B3 O3 D3 M2 S3
 have hE1 : (E != 0) = false := by rw [H0.out]; rfl
 have hK1 : ((K.num : Int) == 0) = false := by rw [beq_eq_false_iff_ne]; have := HK0.out; omega
 have J4 : Hid (JO w4 g gd w.heap.size n 0 (jop K m n)) := lH ⟨by have q := BL4.out; rwa [H0.out] at q, ⟨_, M4.out, MapOf.none _ _ (fun i hi => by
  show ((List.replicate (n - 2 - K.ring) emp).getD i emp).size = 0
  rw [List.getD_eq_getElem?_getD, List.getElem?_replicate]
  split <;> rfl)⟩, HOKJ.out, by omega⟩
 have AP4 : Hid (Apart w4 g w.heap.size S') := lH ⟨hng'.out, hngp'.out, J4.out.lt, J4.out.ltp, by omega⟩
 have CL4 := lH (jload_any (Z := Z) (S := S') (p := ⟨m, 0⟩) J4.out D4.out OK.out rfl HL.out AP4.out)
 obtain ⟨l0, hl0⟩ : ∃ l0, ldL m n (jop K m n).k ((jop K m n).homes n) = l0 := ⟨_, rfl⟩
 have HL0 := lH hl0
 rw [show ldL (Pt.mk m 0).m n (jop K m n).k ((jop K m n).homes n) = l0 from hl0] at CL4
 clear hl0 BL4 M4 c40 c41 c42
 have c41 : w4.cell? ⟨g, 1, none⟩ = some (.int .i64 0) := J4.out.c1
 have c42 : w4.cell? ⟨g, 2, none⟩ = some (.int .u64 (K.num : Int)) := J4.out.c2
 go_upto_region 8 with (first
  | (go_at_call 109; refine CL4.out.mono ?_; rintro en w5 ⟨A5, nl5, cl5, rfl, h51, h52, h53⟩
     have LN5 := lH h51
     have LC5 := lH h52
     have LJ5 := lH h53
     clear h51 h52 h53))
 clear CL4 c41 c42
 go_loopw [5] (fun v wr => ∃ (q : Nat) (Jq : JM) (A : Option Addr) (nl cl : Nat), q <= F /\ Jq.used <= 41 * q /\ Jq.k.turn = K.turn + q /\ Jq.lives = m.powers /\ rep m n (F - q) Jq = J /\ v = .slice A nl cl /\ nl = (ldL m n Jq.k (Jq.homes n)).length /\ (nl ≠ 0 -> ∃ gl, A = some ⟨gl, 0, none⟩ /\ CB wr gl (ldL m n Jq.k (Jq.homes n)) /\ w4.heap.size <= gl) /\ LeftJ Z w4 g gd w.heap.size n S' ⟨m, 0⟩ Jq wr) (fun _ wr => F - (tnOf wr g - K.turn))
 case atStart => exact ⟨0, jop K m n, A5, nl5, cl5, by omega, Nat.zero_le _, rfl, rfl, by rw [Nat.sub_zero]; exact HJ.out, rfl, by rw [LN5.out, HL0.out], by rw [HL0.out]; exact LC5.out, LJ5.out⟩
 case round =>
  obtain ⟨q, Jq, A, nl, cl, hq, hu, hturn, hlv, hrep, rfl, hnl, hcb, lj⟩ := hrel
  have LJ := lH lj
  have hrep' := lH hrep
  have HNL := lH hnl
  have HCB := lH hcb
  have HLV := lH hlv
  have JQ := lH lj.o
  have hr3 := lj.o.ok.r3
  have hr1 := lj.o.ok.r1
  have LDO := lH (ldL_ok (m := m) (n := n) (h := Jq.homes n) (k := Jq.k) (fun q => HD.out Jq.k hr3 hr1 (1 + q)))
  clear lj hrep hcb hlv hnl
  by_cases hz : nl = 0
  · have e0 : ldL m n Jq.k (Jq.homes n) = [] := List.eq_nil_of_length_eq_zero (by rw [<- HNL.out]; exact hz)
    have eJ : J = Jq := by rw [<- hrep'.out, rep_end e0]
    subst eJ
    obtain ⟨S6, d6, hs6, hg6, hgp6⟩ := LJ.out.nog hng'.out hngp'.out AP4.out.l1 AP4.out.l2
    have CK := lH (jck_any (p := ⟨m, 0⟩) JQ.out d6 ⟨hg6, hgp6, JQ.out.lt, JQ.out.ltp, JQ.out.ne⟩ OK.out HW.out (by unfold chkE; rw [if_neg (by rintro (h | h); exact h rfl; exact h HLV.out.symm)]))
    rw [HCE.out] at CK
    have HS6 := lH hs6
    have G6 := lH (And.intro hg6 hgp6)
    clear d6 hs6 hg6 hgp6
    have hz' : ((nl : Int)) = 0 := by omega
    subst hz
    have FINJ : Hid (∀ W, LeftJ Z w4 g gd w.heap.size n S' (ckP ⟨m, 0⟩ n J) (ckJ ⟨m, 0⟩ n J) W -> LeftO Z w g gd w.heap.size n S (ckP ⟨m, 0⟩ n J) (ckJ ⟨m, 0⟩ n J) W) := lH (fun W l => by
     obtain ⟨S7, d7, hs7, hg7, hgp7⟩ := l.nog hng'.out hngp'.out AP4.out.l1 AP4.out.l2
     have hsz4 := O4.out.size
     refine ⟨S7, d7, fun k hk => ?_, l.o, O4.out.trans' l.y (fun k hk hh => ?_), hg7, hgp7, by omega, Nat.le_refl _⟩
     · rcases hs7 k hk with h | h
       · exact S4.out k h
       · exact .inr (by omega)
     · rcases hh with h | h | h
       · rcases S4.out k h with h | h
         · exact h
         · omega
       · omega
       · omega)
    by_cases hce : CE = 0
    · have hce1 : (CE != 0) = false := by rw [hce]; rfl
      have HCE0 := lH hce
      clear hce
      go_wp2_with (first
       | (go_at_call 76; refine CK.out.mono ?_; rintro en w7 ⟨rfl, l7⟩
          have L7 := lH (LJ.out.trans HS6.out l7)
          clear l7))
      go_ret2
      exact ⟨fun hh => absurd HCE0.out hh, fun _ => ⟨g, w.heap.size, rfl, FINJ.out _ L7.out⟩⟩
    · have hce1 : (CE != 0) = true := by rw [bne_iff_ne]; exact hce
      have HCE0 := lH hce
      clear hce
      go_wp2_with (first
       | (go_at_call 76; refine CK.out.mono ?_; rintro en w7 ⟨rfl, l7⟩
          have L7 := lH (LJ.out.trans HS6.out l7)
          clear l7))
      go_ret2
      obtain ⟨S7, d7, hs7, _, y7, _⟩ := FINJ.out _ L7.out
      exact ⟨fun _ => ⟨rfl, S7, d7, hs7, y7⟩, fun hh => absurd hh HCE0.out⟩
  · have hne : ldL m n Jq.k (Jq.homes n) ≠ [] := fun hh => hz (by rw [HNL.out, hh]; rfl)
    obtain ⟨gl, rfl, hcb, hgl⟩ := HCB.out hz
    have hqF : q < F := by
     rcases Nat.lt_or_ge q F with h | h
     · exact h
     · exfalso
       have : F - q = 0 := by omega
       have h2 := hrep'.out
       rw [this] at h2
       exact hne (by have h3 := HFI.out; rw [<- h2] at h3; exact h3)
    obtain ⟨S6, d6, hs6, hg6, hgp6⟩ := LJ.out.nog hng'.out hngp'.out AP4.out.l1 AP4.out.l2
    have hglw : w4.heap.size <= gl := hgl
    have hg4 := AP4.out.l1
    have hgp4 := AP4.out.l2
    have hF' := HF.out
    have T := lH (jtake_any gl nl cl (ldL m n Jq.k (Jq.homes n)) JQ.out n2 hcb (fun c hc => (LDO.out.2 c hc).2) HNL.out (by have := LDO.out.1; have := HNL.out; omega) (fun c hc => (LDO.out.2 c hc).1) (by omega) (by have := HT.out; omega) (by omega) (by omega))
    obtain ⟨l, hl⟩ : ∃ l, ldL m n Jq.k (Jq.homes n) = l := ⟨_, rfl⟩
    have hrg : rep m n (F - (q + 1)) (Jq.take l) = J := by
     have h2 := hrep'.out
     rw [show F - q = F - (q + 1) + 1 by omega, rep_go hne, hl] at h2
     exact h2
    have hl40 : l.length <= 40 := by rw [<- hl]; exact LDO.out.1
    rw [hl] at T
    have HRG := lH hrg
    have D6 := lH d6
    have HS6 := lH hs6
    have G6 := lH (And.intro hg6 hgp6)
    have CL7 : Hid (∀ W, JO W g gd w.heap.size n 0 (Jq.take l) -> Only (fun k => k = g \/ k = w.heap.size) wr W -> Calls Tryz.prog 109 #[.pointer (some ⟨g, 0, none⟩)] W (RetLd Z W g gd w.heap.size n S6 (ldL m n (Jq.take l).k ((Jq.take l).homes n)) ⟨m, 0⟩ (Jq.take l))) := lH (fun W hW ho => jload_any (Z := Z) (S := S6) (p := ⟨m, 0⟩) hW (Z.only D6.out ho (fun k hk hh => hh.elim (fun e => G6.out.1 (e ▸ hk)) (fun e => G6.out.2 (e ▸ hk)))) OK.out rfl HL.out ⟨G6.out.1, G6.out.2, hW.lt, hW.ltp, hW.ne⟩)
    have LT : Hid (∀ W, JO W g gd w.heap.size n 0 (Jq.take l) -> Only (fun k => k = g \/ k = w.heap.size) wr W -> LeftJ Z w4 g gd w.heap.size n S' ⟨m, 0⟩ (Jq.take l) W) := lH (fun W hW ho => ⟨⟨S6, Z.only D6.out ho (fun k hk hh => hh.elim (fun e => G6.out.1 (e ▸ hk)) (fun e => G6.out.2 (e ▸ hk))), HS6.out⟩, hW, LJ.out.y.trans' ho (fun k _ hk => .inr hk)⟩)
    have hWs : w4.heap.size <= wr.heap.size := LJ.out.y.size
    have TN := lH JQ.out.tn
    have hz' : ¬ ((nl : Int) = 0) := by omega
    have hz2 : (0 : Int) < (nl : Int) := by omega
    clear hrg hl d6 hs6 hg6 hgp6 hcb hne hrep' LDO HNL HCB
    go_wp2_with (first
     | (go_at_call 78; refine T.out.mono ?_; rintro en w6 ⟨rfl, j6, o6⟩
        have J6 := lH j6
        have O6 := lH o6
        clear j6 o6)
     | (go_at_call 109; refine (CL7.out _ J6.out O6.out).mono ?_; rintro en w7 ⟨A7, nl7, cl7, rfl, h71, h72, h73⟩
        have LN7 := lH h71
        have LC7 := lH h72
        have LJ7 := lH ((LT.out _ J6.out O6.out).trans HS6.out h73)
        clear h71 h72 h73))
    go_roundw
    case rel =>
     refine ⟨q + 1, Jq.take l, A7, nl7, cl7, by omega, ?_, ?_, HLV.out, HRG.out, rfl, LN7.out, fun hh => ?_, LJ7.out⟩
     · show Jq.used + (l.length + 1) <= 41 * (q + 1)
       omega
     · show Jq.k.turn + 1 = K.turn + (q + 1)
       omega
     · obtain ⟨gl7, e7, h7, h8⟩ := LC7.out hh
       exact ⟨gl7, e7, h7, by have := O6.out.size; omega⟩
    case measure =>
     have t7 := LJ7.out.o.tn
     have t8 : (Jq.take l).k.turn = Jq.k.turn + 1 := rfl
     have t9 := TN.out
     omega
end
end Go.Proofs.YthoebjekkfhhgaaGreat
