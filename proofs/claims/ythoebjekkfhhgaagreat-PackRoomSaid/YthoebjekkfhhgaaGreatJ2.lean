/-
  Own work.
-/
import Derived.Test.YthoebjekkfhhgaaGreatCp9
import Derived.Test.YthoebjekkfhhgaaGreatJ1
set_option linter.unusedVariables false
set_option linter.unusedSimpArgs false
set_option maxRecDepth 100000
set_option maxHeartbeats 8000000
namespace Go.Proofs.YthoebjekkfhhgaaGreat
open Go.RowKit Go.Maps
section
variable {Z : DK} {w w' W W' : World} {g gd gp n : Nat} {S T : Nat -> Prop} {e : Int} {j : JM} {m : RM} {p : Pt}
structure Apart (w : World) (g gp : Nat) (S : Nat -> Prop) : Prop where
 s1 : ¬ S g
 s2 : ¬ S gp
 l1 : g < w.heap.size
 l2 : gp < w.heap.size
 ne : g ≠ gp
theorem LeftJ.belowR (l : LeftJ Z w g gd gp n S p j W) (hb : Below W.heap.size W W') : LeftJ Z w g gd gp n S p j W' := by
 obtain ⟨S', d', hs⟩ := l.d
 exact l.trans hs (LeftJ.below hb d' l.o)
theorem LeftJ.drew (l : LeftJ Z w g gd gp n S p j W) : LeftJ Z w g gd gp n S p j W.drew := l.belowR (Below.refl _ W).drew
theorem jwr_on (a : Apart w g gp S) (l : LeftJ Z w g gd gp n S p j W) (ok : p.m.Ok n) (hw : p.m.wrote < 1073741824) (i : Int) (s : List UInt8) (hi : -9223372036854775808 <= i /\ i <= 9223372036854775807) (hs : s.length = 512) :
 Calls Tryz.prog 105 #[.pointer (some ⟨g, 0, none⟩), .int .i64 i, .agg (cellsB s).toArray] W (fun en W' => en = .returned (.tuple #[]) /\ LeftJ Z w g gd gp n S (p.wr n i s) j W') := by
 obtain ⟨S', d', hs', hg', hp'⟩ := l.nog a.s1 a.s2 a.l1 a.l2
 refine (powr_any p i s d' ok hw hi hs l.o.po hg').mono ?_
 rintro en W' ⟨he, lp⟩
 exact ⟨he, l.trans hs' (LeftJ.port l.o hg' hp' lp)⟩
theorem jfl_on (a : Apart w g gp S) (l : LeftJ Z w g gd gp n S p j W) (ok : p.m.Ok n) :
 Calls Tryz.prog 104 #[.pointer (some ⟨g, 0, none⟩)] W (fun en W' => en = .returned (.tuple #[]) /\ LeftJ Z w g gd gp n S (p.fl n) j W') := by
 obtain ⟨S', d', hs', hg', hp'⟩ := l.nog a.s1 a.s2 a.l1 a.l2
 refine (pofl_any p d' ok l.o.po hg').mono ?_
 rintro en W' ⟨he, lp⟩
 exact ⟨he, l.trans hs' (LeftJ.port l.o hg' hp' lp)⟩
theorem jan_on (a : Apart w g gp S) (l : LeftJ Z w g gd gp n S p j W) (ok : p.m.Ok n) (hw : p.m.wrote < 1073741824) (k : Mk) (hk : k.Fit) :
 Calls Tryz.prog 106 #[.pointer (some ⟨g, 0, none⟩), .agg (mkC k)] W (fun en W' => en = .returned (.tuple #[]) /\ LeftJ Z w g gd gp n S (p.anchor n k) j W') := by
 obtain ⟨S', d', hs', hg', hp'⟩ := l.nog a.s1 a.s2 a.l1 a.l2
 refine (poan_any p k d' ok hw hk l.o.po hg').mono ?_
 rintro en W' ⟨he, lp⟩
 exact ⟨he, l.trans hs' (LeftJ.port l.o hg' hp' lp)⟩
def JB (W : World) (g gd gp : Nat) (j : JM) : Prop := ∃ e, W.heap[g]? = some (.cells (jC gd gp e j) 142 (0, 0))
theorem LeftJ.jb (l : LeftJ Z w g gd gp n S p j W) : JB W g gd gp j := ⟨_, l.o.blk⟩
theorem JB.mark (h : JB W g gd gp j) : (loadVar 137 ⟨g, 2, none⟩).run Tryz.prog W = .ok (.agg (mkC j.k)) W := by
 obtain ⟨e, hb⟩ := h
 refine run_loadVar_part W g 2 _ _ (jC gd gp e j).toList [.int .u64 (j.k.num : Int), .int .u64 (j.k.turn : Int), .int .u32 (j.k.pos : Int), .int .u32 (j.k.ring : Int)] (0, 0) _ hb Tryz.underlying137 rfl infoMk (fun i v hv => ?_)
 match i, hv with
 | 0, hv => exact hv
 | 1, hv => exact hv
 | 2, hv => exact hv
 | 3, hv => exact hv
 | i + 4, hv => simp at hv
theorem JB.turn (h : JB W g gd gp j) : (loadVar 89 ⟨g, 3, none⟩).run Tryz.prog W = .ok (.int .u64 (j.k.turn : Int)) W := by
 obtain ⟨e, hb⟩ := h
 exact load_u64 (cell_of_row W g 3 _ _ (0, 0) hb)
theorem built_zsec : Tryz.prog.built 185 [] = some (cellsB zsec).toArray := by kernel_rfl
theorem yieldsIf_bd0 {ops : Array Oper} {o : Oper} {a : Act} {S : World -> Prop} (hw : Region.wanted o (yielded ops a.tmps) = true) (t : TypeId) (ho : o.op = .build t #[]) (cells : Array Value)
 (hf : Tryz.prog.built t [] = some cells) : YieldsIf Tryz.prog ops S o (.agg cells) a := by
 refine Or.inl ⟨hw, fun w hS => ?_⟩
 unfold execOp
 simp only [ho, Sem.run_bind, List.map_toArray, List.map_nil, run_build w t _ _ hf, Result.andThen_ok, Sem.run_pure]
theorem stK_succ (p : Pt) (n : Nat) (k : Mk) (l : List Ch) (i : Nat) (c : Ch) (h : l[i]? = some c) : stK p n k l (i + 1) = (stK p n k l i).wr n (k.inRing (1 + i) : Nat) (tagged c.data k.turn) := by
 unfold stK
 rw [List.range_succ, List.foldl_append, List.foldl_cons, List.foldl_nil, List.getD_eq_getElem?_getD, h]
 rfl
theorem stK_ok (p : Pt) (n : Nat) (k : Mk) (l : List Ch) (i : Nat) (ok : p.m.Ok n) (hw : p.m.wrote + i + 1 <= 1073741823) : (stK p n k l i).m.Ok n /\ (stK p n k l i).m.wrote <= p.m.wrote + i + 1 := by
 induction i with
 | zero => exact ⟨Pt.wr_ok ok (by omega) _ _, Pt.wr_wrote p n _ _⟩
 | succ i ih =>
   obtain ⟨h1, h2⟩ := ih (by omega)
   have e : stK p n k l (i + 1) = (stK p n k l i).wr n (k.inRing (1 + i) : Nat) (tagged (l.getD i ⟨0, []⟩).data k.turn) := by
    unfold stK
    rw [List.range_succ, List.foldl_append]
    rfl
   rw [e]
   exact ⟨Pt.wr_ok h1 (by omega) _ _, by have := Pt.wr_wrote (stK p n k l i) n (k.inRing (1 + i) : Nat) (tagged (l.getD i ⟨0, []⟩).data k.turn); omega⟩
theorem inRing_lt (k : Mk) (i : Nat) (h : 0 < k.ring) (h2 : k.ring <= 1024) : k.inRing i < 1026 := by
 have : k.ahead i < k.ring := Nat.mod_lt _ h
 unfold Mk.inRing
 omega
theorem jstore_any (gl nl cl : Nat) (l : List Ch) (d : Z.D w gd S n p.m) (h : JO w g gd gp n p.e j) (a : Apart w g gp S) (ok : p.m.Ok n) (hw : p.m.wrote <= 1073740000) (hc : CB w gl l) (hok : ChOk l) (hl : nl = l.length) (hl1 : nl <= 40) (hh : ∀ c ∈ l, c.home < 4294967296)
 (g1 : gl ≠ g) (g2 : gl ≠ gp) (g3 : ¬ S gl) (ht : j.k.turn < 4611686018427387904) :
 Calls Tryz.prog 77 #[.pointer (some ⟨g, 0, none⟩), .slice (some ⟨gl, 0, none⟩) nl cl] w (fun en w' => en = .returned (.tuple #[]) /\ LeftJ Z w g gd gp n S (stP p n j.k l) j w') := by
 have hgl := hc.lt
 have fit := h.ok.fit
 have r1 := h.ok.r1
 have r2 := h.ok.r2
 have HL := lH hl
 have HOK := lH hok
 have HH := lH hh
 have HC := lH hc
 have AP := lH a
 have L0 : Hid (LeftJ Z w g gd gp n S p j w) := lH (LeftJ.same d h)
 have CB' : Hid (∀ W q, LeftJ Z w g gd gp n S q j W -> CB W gl l) := lH (fun W q hW => hc.only hW.y (fun hh => hh.elim g3 (fun hh => hh.elim g1 g2)))
 have CI : Hid (∀ (i : Nat) W, i <= 100 -> Calls Tryz.prog 115 #[.agg (mkC j.k), .int .i64 (i : Int)] W (RetV2 W (.int .i64 (j.k.inRing i : Nat)))) := lH (fun i W hi => inRing_any j.k i W fit (by omega) (by omega))
 have CI0 : Hid (∀ W, Calls Tryz.prog 115 #[.agg (mkC j.k), .int .i64 0] W (RetV2 W (.int .i64 (j.k.inRing 0 : Nat)))) := lH (fun W => by
  have := inRing_any j.k 0 W fit (by omega) (by omega)
  rw [show ((0 : Nat) : Int) = 0 from rfl] at this
  exact this)
 have RI : Hid (∀ i : Nat, j.k.inRing i < 1026) := lH (fun i => inRing_lt j.k i (by omega) r2)
 have SO : Hid (∀ i : Nat, i <= 40 -> (stK p n j.k l i).m.Ok n /\ (stK p n j.k l i).m.wrote <= p.m.wrote + i + 1) := lH (fun i hi => stK_ok p n j.k l i ok (by omega))
 have CW0 : Hid (∀ W, LeftJ Z w g gd gp n S p j W -> Calls Tryz.prog 105 #[.pointer (some ⟨g, 0, none⟩), .int .i64 (j.k.inRing 0 : Nat), .agg (cellsB zsec).toArray] W (fun en W' => en = .returned (.tuple #[]) /\ LeftJ Z w g gd gp n S (stK p n j.k l 0) j W')) := lH (fun W hW => jwr_on a hW ok (by omega) _ zsec (by have := RI.out 0; omega) zsec_len)
 clear d h hc hok hl hh a fit ok g3
 go_enter Tryz.func77, Tryz.ntmps77
 go_wp2_with fail
 refine wp_region_held_drew (S := fun W => JB W g gd gp j) (by kernel_rfl) (L0.out.drew.jb) (fun hHeld => ?_)
 refine tk9 (i := 0) (h := ?_)
 try simp only [aP,aN,aS,aZ,aC]
 refine tk9 (i := 1) (h := ?_)
 try simp only [aP,aN,aS,aZ,aC]
 refine tk9 (i := 2) (h := ?_)
 try simp only [aP,aN,aS,aZ,aC]
 refine tk9 (i := 3) (h := ?_)
 try simp only [aP,aN,aS,aZ,aC]
 refine tk9 (i := 4) (h := ?_)
 try simp only [aP,aN,aS,aZ,aC]
 refine tk9 (i := 5) (h := ?_)
 try simp only [aP,aN,aS,aZ,aC]
 refine tk9 (i := 6) (hy := (yieldsIf_loadG (by rfl) 137 (.tmp 11) rfl ⟨g, 2, none⟩ rfl _ (fun W hW => JB.mark hW))) (h := ?_)
 try simp only [aP,aN,aS,aZ,aC]
 refine tk9 (i := 8) (hy := (yieldsIf_bd0 (by rfl) 185 rfl _ built_zsec)) (h := ?_)
 try simp only [aP,aN,aS,aZ,aC]
 refine rd9 (i := 7) (h := fun K hK => ?_)
 go_simp
 refine (CI0.out _).mono ?_
 rintro en w1 ⟨rfl, b1⟩
 have L1 := lH (L0.out.drew.belowR b1)
 have hS7 := L1.out.jb
 clear b1
 refine hK _ _ hS7 (fun hH7 => ?_)
 clear hK K
 try simp only [aP,aN,aS,aZ,aC]
 refine rd9 (i := 9) (h := fun K hK => ?_)
 go_simp
 refine (CW0.out _ L1.out).mono ?_
 rintro en w2 ⟨rfl, l2⟩
 have L2 := lH l2
 have hS9 := l2.jb
 clear l2
 refine hK _ _ hS9 (fun hH9 => ?_)
 clear hK K
 try simp only [aP,aN,aS,aZ,aC]
 refine wpAnyH_done (by kernel_rfl) ?_ _
 go_wp2_with fail
 go_loopw [18] (fun i wr => ∃ k : Nat, k <= nl /\ i = .int .i64 (k : Int) /\ LeftJ Z w g gd gp n S (stK p n j.k l k) j wr) (fun i _ => nl - (Go.RowKit.intOf i).toNat)
 case atStart => exact ⟨0, by omega, rfl, L2.out⟩
 case round =>
  obtain ⟨k, hk, rfl, ql⟩ := hrel
  by_cases hlt' : k < nl
  · obtain ⟨c, hc⟩ : ∃ c, l[k]? = some c := ⟨_, List.getElem?_eq_getElem (by have := HL.out; omega)⟩
    have hcl : c.data.length = 512 := HOK.out c (List.mem_of_getElem? hc)
    have ld := (CB'.out _ _ ql).load HOK.out hc
    obtain ⟨S', d', hs', hg', hp'⟩ := ql.nog AP.out.s1 AP.out.s2 AP.out.l1 AP.out.l2
    have hok := SO.out k (by omega)
    have hsk := stK_succ p n j.k l k c hc
    have LD := lH ld
    have ZN := lH (heap_alloc_new wr (.cells Tryz.zeroCells196 196))
    have HCL := lH hcl
    have QL := lH ql
    have HS := lH hs'
    have SK := lH hsk
    have HOK2 := lH hok
    have OJ := lH ql.o
    have DJ := lH d'
    have SG := lH (And.intro hg' hp')
    clear ld hcl hc ql hs' hsk hok d' hg' hp'
    go_upto_region 4 with (first
     | (refine wp_loadA rfl _ (.tmp 21) rfl ⟨gl, k * 513, none⟩ rfl _ LD.out ?_)
     | (refine wp_store_ch rfl (.tmp 5) (.tmp 22) rfl wr.heap.size c rfl rfl _ ZN.out zcCh HCL.out ?_; intro w5 q5 o5
        have Q5 := lH q5
        have O5 := lH (((Below.refl _ wr).alloc (Nat.le_refl _) _).trans (o5.to_below (B := wr.heap.size) (fun k hk => by omega) (by simp)))
        clear q5 o5))
    have d5 : Z.D w5 gd S' n (stK p n j.k l k).m := Z.only DJ.out (Only.of_below (S := fun _ => False) O5.out (Nat.le_refl _)) (fun _ _ h => h)
    have o5 := OJ.out.below O5.out
    have ap5 : Apart w5 g gp S' := ⟨SG.out.1, SG.out.2, o5.lt, o5.ltp, AP.out.ne⟩
    have A5 := lH ap5
    have L5 : Hid (LeftJ Z w5 g gd gp n S' (stK p n j.k l k) j w5) := lH (LeftJ.same d5 o5)
    have HLT : Hid (wr.heap.size < w5.heap.size) := lH Q5.out.lt
    have KEEP : Hid (∀ W q, LeftJ Z w5 g gd gp n S' q j W -> Cb1 W wr.heap.size c) := lH (fun W q hW => Q5.out.only hW.y (fun hh => by
     rcases hh with h1 | h1 | h1
     · have := Z.lt DJ.out _ h1; omega
     · have := OJ.out.lt; omega
     · have := OJ.out.ltp; omega))
    have CI1 : Hid (∀ W, Calls Tryz.prog 115 #[.agg (mkC j.k), .int .i64 (1 + (k : Int))] W (RetV2 W (.int .i64 (j.k.inRing (1 + k) : Nat)))) := lH (fun W => by
     have := CI.out (1 + k) W (by omega)
     rw [show ((1 + k : Nat) : Int) = 1 + (k : Int) by omega] at this
     exact this)
    have CT : Hid (∀ W, Calls Tryz.prog 116 #[.agg (cellsB c.data).toArray, .int .u64 (j.k.turn : Int)] W (RetSec W (tagged c.data j.k.turn))) := lH (fun W => tagged_any c.data j.k.turn W HCL.out (by omega))
    have CW : Hid (∀ W, LeftJ Z w5 g gd gp n S' (stK p n j.k l k) j W -> Calls Tryz.prog 105 #[.pointer (some ⟨g, 0, none⟩), .int .i64 (j.k.inRing (1 + k) : Nat), .agg (cellsB (tagged c.data j.k.turn)).toArray] W (fun en W' => en = .returned (.tuple #[]) /\ LeftJ Z w5 g gd gp n S' (stK p n j.k l (k + 1)) j W')) := lH (fun W hW => by
     have := jwr_on A5.out hW HOK2.out.1 (by have := HOK2.out.2; omega) (j.k.inRing (1 + k) : Nat) (tagged c.data j.k.turn) (by have := RI.out (1 + k); omega) (tagged_len HCL.out _)
     rw [<- SK.out] at this
     exact this)
    have e7 : IntKind.i64.wrap (1 + (k : Int)) = 1 + (k : Int) := by rw [IntKind.wrap_i64]; omega
    clear d5 o5 ap5
    go_wp2_with fail
    refine wp_region_held_drew (S := fun W => JB W g gd gp j /\ Cb1 W wr.heap.size c) (by kernel_rfl) ⟨L5.out.drew.jb, KEEP.out _ _ L5.out.drew⟩ (fun hHeld => ?_)
    refine tk9 (i := 0) (h := ?_)
    try simp only [aP,aN,aS,aZ,aC]
    refine tk9 (i := 1) (h := ?_)
    try simp only [aP,aN,aS,aZ,aC]
    refine tk9 (i := 2) (h := ?_)
    try simp only [aP,aN,aS,aZ,aC]
    refine tk9 (i := 3) (h := ?_)
    try simp only [aP,aN,aS,aZ,aC]
    refine tk9 (i := 4) (h := ?_)
    try simp only [aP,aN,aS,aZ,aC]
    refine tk9 (i := 5) (h := ?_)
    try simp only [aP,aN,aS,aZ,aC]
    refine tk9 (i := 6) (hy := (yieldsIf_loadG (by rfl) 137 (.tmp 28) rfl ⟨g, 2, none⟩ rfl _ (fun W hW => JB.mark hW.1))) (h := ?_)
    try simp only [aP,aN,aS,aZ,aC]
    refine tk9 (i := 7) (h := ?_)
    try simp only [aP,aN,aS,aZ,aC]
    refine tk9 (i := 8) (h := ?_)
    try simp only [aP,aN,aS,aZ,aC]
    refine tk9 (i := 10) (h := ?_)
    try simp only [aP,aN,aS,aZ,aC]
    refine tk9 (i := 11) (hy := (yieldsIf_loadG (by rfl) 185 (.tmp 33) rfl ⟨wr.heap.size, 1, none⟩ rfl _ (fun W hW => Cb1.sec hW.2 HCL.out))) (h := ?_)
    try simp only [aP,aN,aS,aZ,aC]
    refine tk9 (i := 12) (h := ?_)
    try simp only [aP,aN,aS,aZ,aC]
    refine tk9 (i := 13) (h := ?_)
    try simp only [aP,aN,aS,aZ,aC]
    refine tk9 (i := 14) (h := ?_)
    try simp only [aP,aN,aS,aZ,aC]
    refine tk9 (i := 15) (h := ?_)
    try simp only [aP,aN,aS,aZ,aC]
    refine tk9 (i := 16) (hy := (yieldsIf_loadG (by rfl) 89 (.tmp 38) rfl ⟨g, 3, none⟩ rfl _ (fun W hW => JB.turn hW.1))) (h := ?_)
    try simp only [aP,aN,aS,aZ,aC]
    have L5d := lH L5.out.drew
    refine rd9 (i := 9) (h := fun K hK => ?_)
    go_simp
    refine (CI1.out _).mono ?_
    rintro en w6 ⟨rfl, b6⟩
    have L6 := lH (L5d.out.belowR b6)
    clear b6
    refine hK _ _ ⟨L6.out.jb, KEEP.out _ _ L6.out⟩ (fun hH9 => ?_)
    clear hK K
    try simp only [aP,aN,aS,aZ,aC]
    refine rd9 (i := 17) (h := fun K hK => ?_)
    go_simp
    refine (CT.out _).mono ?_
    rintro en w7 ⟨rfl, b7⟩
    have L7 := lH (L6.out.belowR b7)
    clear b7
    refine hK _ _ ⟨L7.out.jb, KEEP.out _ _ L7.out⟩ (fun hH17 => ?_)
    clear hK K
    try simp only [aP,aN,aS,aZ,aC]
    refine rd9 (i := 18) (h := fun K hK => ?_)
    go_simp
    refine (CW.out _ L7.out).mono ?_
    rintro en w8 ⟨rfl, l8⟩
    have L8 := lH l8
    clear l8
    refine hK _ _ ⟨L8.out.jb, KEEP.out _ _ L8.out⟩ (fun hH18 => ?_)
    clear hK K
    try simp only [aP,aN,aS,aZ,aC]
    refine wpAnyH_done (by kernel_rfl) ?_ _
    go_wp2_with fail
    go_roundw
    case rel => exact ⟨k + 1, by omega, by go_num, QL.out.trans HS.out (LeftJ.from O5.out L8.out)⟩
    case measure => simp [Go.RowKit.intOf]; omega
  · obtain rfl : k = nl := by omega
    have hok := SO.out k (by omega)
    have hfok := Pt.fl_ok hok.1
    have hfw := Pt.fl_wrote (stK p n j.k l k) n
    have QL := lH ql
    have eS : (((stK p n j.k l k).fl n).wr n (j.k.inRing 0 : Nat) (hdr j.k.turn l)).fl n = stP p n j.k l := by unfold stP; rw [HL.out]
    have hw2 : ((stK p n j.k l k).fl n).m.wrote < 1073741824 := by rw [hfw]; have := hok.2; omega
    have CF1 : Hid (∀ W, LeftJ Z w g gd gp n S (stK p n j.k l k) j W -> Calls Tryz.prog 104 #[.pointer (some ⟨g, 0, none⟩)] W (fun en W' => en = .returned (.tuple #[]) /\ LeftJ Z w g gd gp n S ((stK p n j.k l k).fl n) j W')) := lH (fun W hW => jfl_on AP.out hW hok.1)
    have hll : (hdr j.k.turn l).length = 512 := hdr_len _ _ (by have := HL.out; omega)
    have CW : Hid (∀ W, LeftJ Z w g gd gp n S ((stK p n j.k l k).fl n) j W -> Calls Tryz.prog 105 #[.pointer (some ⟨g, 0, none⟩), .int .i64 (j.k.inRing 0 : Nat), .agg (cellsB (hdr j.k.turn l)).toArray] W (fun en W' => en = .returned (.tuple #[]) /\ LeftJ Z w g gd gp n S (((stK p n j.k l k).fl n).wr n (j.k.inRing 0 : Nat) (hdr j.k.turn l)) j W')) := lH (fun W hW => jwr_on AP.out hW hfok hw2 _ _ (by have := RI.out 0; omega) hll)
    have CF2 : Hid (∀ W, LeftJ Z w g gd gp n S (((stK p n j.k l k).fl n).wr n (j.k.inRing 0 : Nat) (hdr j.k.turn l)) j W -> Calls Tryz.prog 104 #[.pointer (some ⟨g, 0, none⟩)] W (fun en W' => en = .returned (.tuple #[]) /\ LeftJ Z w g gd gp n S (stP p n j.k l) j W')) := lH (fun W hW => by
     have := jfl_on AP.out hW (Pt.wr_ok hfok hw2 _ _)
     rw [eS] at this
     exact this)
    have CH : Hid (∀ W q, LeftJ Z w g gd gp n S q j W -> Calls Tryz.prog 117 #[.int .u64 (j.k.turn : Int), .slice (some ⟨gl, 0, none⟩) k cl] W (RetSec W (hdr j.k.turn l))) := lH (fun W q hW => header_any j.k.turn gl k cl l W (by omega) (CB'.out _ _ hW) HOK.out HL.out hl1 HH.out)
    obtain ⟨p1, hp1⟩ : ∃ p1, (stK p n j.k l k).fl n = p1 := ⟨_, rfl⟩
    obtain ⟨hd, hhd⟩ : ∃ hd, hdr j.k.turn l = hd := ⟨_, rfl⟩
    rw [hp1] at CF1 CW CF2
    rw [hhd] at CW CF2 CH
    clear hok hfok hfw eS hw2 hll hp1 hhd ql
    go_upto_region 7 with (go_at_call 104; refine (CF1.out _ QL.out).mono ?_; rintro en w5 ⟨rfl, l5⟩
                           have L5 := lH l5
                           clear l5)
    go_wp2_with fail
    refine wp_region_held_drew (S := fun W => JB W g gd gp j) (by kernel_rfl) (L5.out.drew.jb) (fun hHeld => ?_)
    refine tk9 (i := 0) (h := ?_)
    try simp only [aP,aN,aS,aZ,aC]
    refine tk9 (i := 1) (h := ?_)
    try simp only [aP,aN,aS,aZ,aC]
    refine tk9 (i := 2) (h := ?_)
    try simp only [aP,aN,aS,aZ,aC]
    refine tk9 (i := 3) (h := ?_)
    try simp only [aP,aN,aS,aZ,aC]
    refine tk9 (i := 4) (h := ?_)
    try simp only [aP,aN,aS,aZ,aC]
    refine tk9 (i := 5) (h := ?_)
    try simp only [aP,aN,aS,aZ,aC]
    refine tk9 (i := 6) (hy := (yieldsIf_loadG (by rfl) 137 (.tmp 52) rfl ⟨g, 2, none⟩ rfl _ (fun W hW => JB.mark hW))) (h := ?_)
    try simp only [aP,aN,aS,aZ,aC]
    refine tk9 (i := 8) (h := ?_)
    try simp only [aP,aN,aS,aZ,aC]
    refine tk9 (i := 9) (h := ?_)
    try simp only [aP,aN,aS,aZ,aC]
    refine tk9 (i := 10) (h := ?_)
    try simp only [aP,aN,aS,aZ,aC]
    refine tk9 (i := 11) (h := ?_)
    try simp only [aP,aN,aS,aZ,aC]
    refine tk9 (i := 12) (hy := (yieldsIf_loadG (by rfl) 89 (.tmp 58) rfl ⟨g, 3, none⟩ rfl _ (fun W hW => JB.turn hW))) (h := ?_)
    try simp only [aP,aN,aS,aZ,aC]
    refine tk9 (i := 13) (h := ?_)
    try simp only [aP,aN,aS,aZ,aC]
    have L5d := lH L5.out.drew
    refine rd9 (i := 7) (h := fun K hK => ?_)
    go_simp
    refine (CI0.out _).mono ?_
    rintro en w6 ⟨rfl, b6⟩
    have L6 := lH (L5d.out.belowR b6)
    clear b6
    refine hK _ _ L6.out.jb (fun hH7 => ?_)
    clear hK K
    try simp only [aP,aN,aS,aZ,aC]
    refine rd9 (i := 14) (h := fun K hK => ?_)
    go_simp
    refine (CH.out _ _ L6.out).mono ?_
    rintro en w7 ⟨rfl, b7⟩
    have L7 := lH (L6.out.belowR b7)
    clear b7
    refine hK _ _ L7.out.jb (fun hH14 => ?_)
    clear hK K
    try simp only [aP,aN,aS,aZ,aC]
    refine rd9 (i := 15) (h := fun K hK => ?_)
    go_simp
    refine (CW.out _ L7.out).mono ?_
    rintro en w8 ⟨rfl, l8⟩
    have L8 := lH l8
    clear l8
    refine hK _ _ L8.out.jb (fun hH15 => ?_)
    clear hK K
    try simp only [aP,aN,aS,aZ,aC]
    refine wpAnyH_done (by kernel_rfl) ?_ _
    go_wp2_with (go_at_call 104; refine (CF2.out _ L8.out).mono ?_; rintro en w9 ⟨rfl, l9⟩)
    go_end0
    exact ⟨rfl, l9⟩
end
section
variable {Z : DK} {w w' W W' : World} {g gd n : Nat} {S T : Nat -> Prop} {e : Int} {cs : Array Value} {t : TypeId} {m : RM} {p : Pt}
theorem pwr_on (hg : ¬ S g) (hlt : g < w.heap.size) (l : LeftP Z w g gd S n cs t p W) (ok : p.m.Ok n) (hw : p.m.wrote < 1073741824) (i : Int) (s : List UInt8) (hi : -9223372036854775808 <= i /\ i <= 9223372036854775807) (hs : s.length = 512) :
 Calls Tryz.prog 105 #[.pointer (some ⟨g, 0, none⟩), .int .i64 i, .agg (cellsB s).toArray] W (fun en W' => en = .returned (.tuple #[]) /\ LeftP Z w g gd S n cs t (p.wr n i s) W') := by
 obtain ⟨S', d', hg', b', hs', ho'⟩ := l.nog hlt hg
 refine (powr_any p i s d' ok hw hi hs b' hg').mono ?_
 rintro en W' ⟨he, lp⟩
 exact ⟨he, LeftP.trans hs' ho' lp⟩
theorem pfl_on (hg : ¬ S g) (hlt : g < w.heap.size) (l : LeftP Z w g gd S n cs t p W) (ok : p.m.Ok n) :
 Calls Tryz.prog 104 #[.pointer (some ⟨g, 0, none⟩)] W (fun en W' => en = .returned (.tuple #[]) /\ LeftP Z w g gd S n cs t (p.fl n) W') := by
 obtain ⟨S', d', hg', b', hs', ho'⟩ := l.nog hlt hg
 refine (pofl_any p d' ok b' hg').mono ?_
 rintro en W' ⟨he, lp⟩
 exact ⟨he, LeftP.trans hs' ho' lp⟩
theorem pan_on (hg : ¬ S g) (hlt : g < w.heap.size) (l : LeftP Z w g gd S n cs t p W) (ok : p.m.Ok n) (hw : p.m.wrote < 1073741824) (k : Mk) (hk : k.Fit) :
 Calls Tryz.prog 106 #[.pointer (some ⟨g, 0, none⟩), .agg (mkC k)] W (fun en W' => en = .returned (.tuple #[]) /\ LeftP Z w g gd S n cs t (p.anchor n k) W') := by
 obtain ⟨S', d', hg', b', hs', ho'⟩ := l.nog hlt hg
 refine (poan_any p k d' ok hw hk b' hg').mono ?_
 rintro en W' ⟨he, lp⟩
 exact ⟨he, LeftP.trans hs' ho' lp⟩
theorem fmtK_succ (p : Pt) (n k : Nat) : fmtK p n (k + 1) = (if k = 2 then (fmtK p n k).fl n else fmtK p n k).wr n (k : Int) zsec := by
 unfold fmtK
 rw [List.range_succ, List.foldl_append]
 rfl
theorem fmtK_ok (p : Pt) (n : Nat) (ok : p.m.Ok n) (k : Nat) (hw : p.m.wrote + k <= 1073741823) : (fmtK p n k).m.Ok n /\ (fmtK p n k).m.wrote <= p.m.wrote + k := by
 induction k with
 | zero => exact ⟨ok, Nat.le_refl _⟩
 | succ k ih =>
   obtain ⟨h1, h2⟩ := ih (by omega)
   rw [fmtK_succ]
   split
   · have h3 := Pt.fl_wrote (fmtK p n k) n
     exact ⟨Pt.wr_ok (Pt.fl_ok h1) (by omega) _ _, by have := Pt.wr_wrote ((fmtK p n k).fl n) n (k : Int) zsec; omega⟩
   · exact ⟨Pt.wr_ok h1 (by omega) _ _, by have := Pt.wr_wrote (fmtK p n k) n (k : Int) zsec; omega⟩
def LeftF (Z : DK) (w : World) (gd : Nat) (S : Nat -> Prop) (n : Nat) (m : RM) (w' : World) : Prop := ∃ S', Z.D w' gd S' n m /\ (∀ k, S' k -> S k \/ w.heap.size <= k) /\ Only S w w'
theorem format_any (ring : Nat) (d : Z.D w gd S n m) (ok : m.Ok n) (hw : m.wrote <= 1073730000) (h8 : 8 <= ring) (h1k : ring <= 1024) (hn : ring + 10 <= n) :
 Calls Tryz.prog 68 #[.pointer (some ⟨gd, 0, none⟩), .int .i64 (ring : Int)] w (fun en w' => en = .returned (.int .i64 (fmtP m n ring).e) /\ LeftF Z w gd S n (fmtP m n ring).m w') := by
 have n2 := ok.n2
 have CFi := lH (fits_any (ring : Int) d ok (by omega))
 have hfit : fitsB n (ring : Int) = true := by unfold fitsB; rw [decide_eq_true_iff]; omega
 rw [hfit] at CFi
 have CL := lH (Z.len_q d ok)
 obtain ⟨w0, hw0⟩ : ∃ w0, w.alloc (.cells #[.pointer (some ⟨gd, 0, none⟩), .int .i64 0] 139) = w0 := ⟨_, rfl⟩
 have hb : Below w.heap.size w w0 := by rw [<- hw0]; exact (Below.refl _ _).alloc (Nat.le_refl _) _
 have h0 : w0.heap[w.heap.size]? = some (.cells #[.pointer (some ⟨gd, 0, none⟩), .int .i64 0] 139 (0, 0)) := by rw [<- hw0]; exact heap_alloc_new w _
 have hlt : w.heap.size < w0.heap.size := (Array.getElem?_eq_some_iff.1 h0).1
 have hb0 : PoB w0 w.heap.size gd 0 #[.pointer (some ⟨gd, 0, none⟩), .int .i64 0] 139 := ⟨h0, rfl, rfl⟩
 have d0 : Z.D w0 gd S n m := Z.only d (Only.of_below (S := fun _ => False) hb (Nat.le_refl _)) (fun _ _ h => h)
 have CL0 : Hid (Calls Tryz.prog 103 #[.pointer (some ⟨gd, 0, none⟩)] w0 fun e w' => e = .returned (.int .i64 (n : Int)) /\ w0 = w') := lH (Z.len_q d0 ok)
 have hS : ¬ S w.heap.size := fun hh => by have := Z.lt d _ hh; omega
 have l0 : LeftP Z w0 w.heap.size gd S n #[.pointer (some ⟨gd, 0, none⟩), .int .i64 0] 139 (fmtK ⟨m, 0⟩ n 0) w0 := LeftP.same d0 hb0
 have FO : Hid (∀ k : Nat, k <= n -> (fmtK ⟨m, 0⟩ n k).m.Ok n /\ (fmtK ⟨m, 0⟩ n k).m.wrote <= m.wrote + k) := lH (fun k hk => fmtK_ok ⟨m, 0⟩ n ok k (by show m.wrote + k <= _; omega))
 have HS := lH hS
 have L0 := lH l0
 have B0 := lH hb
 have W0 := lH hw0
 have SLT : Hid (∀ k, S k -> k < w.heap.size) := lH (fun k hk => Z.lt d k hk)
 clear d ok hfit hb h0 hb0 d0 hS l0 hw0
 go_enter Tryz.func68, Tryz.ntmps68
 go_upto_region 4 with (go_at_call 102; refine CFi.out.mono ?_; rintro en w1 ⟨rfl, rfl⟩)
 rw [W0.out]
 go_wp2_with (go_at_call 103; refine CL0.out.mono ?_; rintro en w1 ⟨rfl, rfl⟩)
 go_loopw [15] (fun i wr => ∃ k : Nat, k <= n /\ i = .int .i64 (k : Int) /\ LeftP Z w0 w.heap.size gd S n #[.pointer (some ⟨gd, 0, none⟩), .int .i64 0] 139 (fmtK ⟨m, 0⟩ n k) wr) (fun i _ => n - (Go.RowKit.intOf i).toNat)
 case atStart => exact ⟨0, by omega, rfl, L0.out⟩
 case round =>
  obtain ⟨k, hk, rfl, ql⟩ := hrel
  have hok := FO.out k hk
  have QL := lH ql
  clear ql
  by_cases hlt' : k < n
  · have hs := fmtK_succ ⟨m, 0⟩ n k
    by_cases h2 : k = 2
    · rw [if_pos h2] at hs
      have CF : Hid (∀ W, LeftP Z w0 w.heap.size gd S n #[.pointer (some ⟨gd, 0, none⟩), .int .i64 0] 139 (fmtK ⟨m, 0⟩ n k) W -> Calls Tryz.prog 104 #[.pointer (some ⟨w.heap.size, 0, none⟩)] W (fun en W' => en = .returned (.tuple #[]) /\ LeftP Z w0 w.heap.size gd S n #[.pointer (some ⟨gd, 0, none⟩), .int .i64 0] 139 ((fmtK ⟨m, 0⟩ n k).fl n) W')) := lH (fun W hW => pfl_on HS.out hlt hW hok.1)
      have CW : Hid (∀ W, LeftP Z w0 w.heap.size gd S n #[.pointer (some ⟨gd, 0, none⟩), .int .i64 0] 139 ((fmtK ⟨m, 0⟩ n k).fl n) W -> Calls Tryz.prog 105 #[.pointer (some ⟨w.heap.size, 0, none⟩), .int .i64 (k : Int), .agg (cellsB zsec).toArray] W (fun en W' => en = .returned (.tuple #[]) /\ LeftP Z w0 w.heap.size gd S n #[.pointer (some ⟨gd, 0, none⟩), .int .i64 0] 139 (fmtK ⟨m, 0⟩ n (k + 1)) W')) := lH (fun W hW => by
       have := pwr_on HS.out hlt hW (Pt.fl_ok hok.1) (by have := Pt.fl_wrote (fmtK ⟨m, 0⟩ n k) n; have := hok.2; omega) (k : Int) zsec (by omega) zsec_len
       rw [<- hs] at this
       exact this)
      have h2' : ((k : Int) == 2) = true := by rw [h2]; rfl
      clear hs hok h2
      go_wp2_with (first
       | (go_at_call 104; refine (CF.out _ QL.out).mono ?_; rintro en w5 ⟨rfl, l5⟩
          have L5 := lH l5
          clear l5)
       | (refine wpList_buildG rfl 185 rfl (cellsB zsec).toArray built_zsec ?_)
       | (go_at_call 105; refine (CW.out _ L5.out).mono ?_; rintro en w6 ⟨rfl, l6⟩
          have L6 := lH l6
          clear l6))
      go_roundw
      case rel => exact ⟨k + 1, by omega, by go_num, L6.out⟩
      case measure => simp [Go.RowKit.intOf]; omega
    · rw [if_neg h2] at hs
      have CW : Hid (∀ W, LeftP Z w0 w.heap.size gd S n #[.pointer (some ⟨gd, 0, none⟩), .int .i64 0] 139 (fmtK ⟨m, 0⟩ n k) W -> Calls Tryz.prog 105 #[.pointer (some ⟨w.heap.size, 0, none⟩), .int .i64 (k : Int), .agg (cellsB zsec).toArray] W (fun en W' => en = .returned (.tuple #[]) /\ LeftP Z w0 w.heap.size gd S n #[.pointer (some ⟨gd, 0, none⟩), .int .i64 0] 139 (fmtK ⟨m, 0⟩ n (k + 1)) W')) := lH (fun W hW => by
       have := pwr_on HS.out hlt hW hok.1 (by have := hok.2; omega) (k : Int) zsec (by omega) zsec_len
       rw [<- hs] at this
       exact this)
      have h2' : ((k : Int) == 2) = false := by rw [beq_eq_false_iff_ne]; omega
      clear hs hok
      go_wp2_with (first
       | (refine wpList_buildG rfl 185 rfl (cellsB zsec).toArray built_zsec ?_)
       | (go_at_call 105; refine (CW.out _ QL.out).mono ?_; rintro en w6 ⟨rfl, l6⟩
          have L6 := lH l6
          clear l6))
      go_roundw
      case rel => exact ⟨k + 1, by omega, by go_num, L6.out⟩
      case measure => simp [Go.RowKit.intOf]; omega
  · obtain rfl : k = n := by omega
    have ha : LeftP Z w0 w.heap.size gd S k #[.pointer (some ⟨gd, 0, none⟩), .int .i64 0] 139 (fmtK ⟨m, 0⟩ k k) wr := QL.out
    have CF : Hid (∀ W, LeftP Z w0 w.heap.size gd S k #[.pointer (some ⟨gd, 0, none⟩), .int .i64 0] 139 (fmtK ⟨m, 0⟩ k k) W -> Calls Tryz.prog 104 #[.pointer (some ⟨w.heap.size, 0, none⟩)] W (fun en W' => en = .returned (.tuple #[]) /\ LeftP Z w0 w.heap.size gd S k #[.pointer (some ⟨gd, 0, none⟩), .int .i64 0] 139 ((fmtK ⟨m, 0⟩ k k).fl k) W')) := lH (fun W hW => pfl_on HS.out hlt hW hok.1)
    have CA : Hid (∀ W, LeftP Z w0 w.heap.size gd S k #[.pointer (some ⟨gd, 0, none⟩), .int .i64 0] 139 ((fmtK ⟨m, 0⟩ k k).fl k) W -> Calls Tryz.prog 106 #[.pointer (some ⟨w.heap.size, 0, none⟩), .agg #[.int .u64 1, .int .u64 1, .int .u32 0, .int .u32 (ring : Int)]] W (fun en W' => en = .returned (.tuple #[]) /\ LeftP Z w0 w.heap.size gd S k #[.pointer (some ⟨gd, 0, none⟩), .int .i64 0] 139 (fmtP m k ring) W')) := lH (fun W hW => pan_on HS.out hlt hW (Pt.fl_ok hok.1) (by have := Pt.fl_wrote (fmtK ⟨m, 0⟩ k k) k; have := hok.2; omega) ⟨1, 1, 0, ring⟩ ⟨by show 1 < _; omega, by show 1 < _; omega, by show 0 < _; omega, by show ring < _; omega⟩)
    have er : IntKind.u32.wrap (ring : Int) = (ring : Int) := by rw [IntKind.wrap_u32]; omega
    obtain ⟨P, hP⟩ : ∃ P, fmtP m k ring = P := ⟨_, rfl⟩
    obtain ⟨P0, hP0⟩ : ∃ P0, (fmtK ⟨m, 0⟩ k k).fl k = P0 := ⟨_, rfl⟩
    rw [hP0] at CF CA
    rw [hP] at CA
    have HP := lH hP
    clear ha hok hP0 hP
    go_wp2_with (first
     | (go_at_call 104; refine (CF.out _ QL.out).mono ?_; rintro en w5 ⟨rfl, l5⟩
        have L5 := lH l5
        clear l5)
     | (go_at_call 106; refine (CA.out _ L5.out).mono ?_; rintro en w6 ⟨rfl, l6⟩
        obtain ⟨S', d', hg', b', hs', ho'⟩ := l6.nog hlt HS.out
        have e6 := b'.er
        have D6 := lH d'
        have S6 := lH hs'
        have O6 := lH ho'
        clear l6 d' hg' b' hs' ho'))
    go_ret
    rw [HP.out]
    refine ⟨rfl, S', D6.out, fun k hk => (S6.out k hk).imp id (fun h => Nat.le_trans B0.out.size h), (Only.of_below B0.out (Nat.le_refl _)).trans' O6.out (fun k hk hT => ?_)⟩
    rcases hT with h1 | h1
    · exact h1
    · omega
end
end Go.Proofs.YthoebjekkfhhgaaGreat
