/-
  Own work.
-/
import Derived.Test.YthoebjekkfhhgaaGreatCp9
import Derived.Test.YthoebjekkfhhgaaGreatJa
import Derived.Test.YthoebjekkfhhgaaGreatG4
import Derived.Test.YthoebjekkfhhgaaGreatG7
set_option linter.unusedVariables false
set_option linter.unusedSimpArgs false
set_option maxRecDepth 100000
set_option maxHeartbeats 8000000
namespace Go.Proofs.YthoebjekkfhhgaaGreat
open Go.RowKit Go.Maps
theorem Only.trans' {S T : Nat -> Prop} {w w' w'' : World} (h : Only S w w') (h' : Only T w' w'') (hs : ∀ k, k < w.heap.size -> T k -> S k) : Only S w w'' :=
 ⟨h'.os.trans h.os, h'.tape.trans h.tape, h'.output.trans h.output, Nat.le_trans h.size h'.size, fun k hk hS => (h'.block k (Nat.lt_of_lt_of_le hk h.size) (fun hT => hS (hs k hk hT))).trans (h.block k hk hS)⟩
theorem Pt.wr_ok {p : Pt} {n : Nat} (ok : p.m.Ok n) (hw : p.m.wrote < 1073741824) (i : Int) (s : List UInt8) : (p.wr n i s).m.Ok n := by
 unfold Pt.wr
 split
 · exact ok.write i (strB s) hw
 · exact ok
theorem Pt.fl_ok {p : Pt} {n : Nat} (ok : p.m.Ok n) : (p.fl n).m.Ok n := by
 unfold Pt.fl
 split
 · exact ok.flush
 · exact ok
theorem Pt.wr_wrote (p : Pt) (n : Nat) (i : Int) (s : List UInt8) : (p.wr n i s).m.wrote <= p.m.wrote + 1 := by
 unfold Pt.wr
 split
 · exact (p.m.writeM_cnt n i (strB s)).1
 · exact Nat.le_succ _
theorem Pt.fl_wrote (p : Pt) (n : Nat) : (p.fl n).m.wrote = p.m.wrote := by
 unfold Pt.fl
 split
 · exact (p.m.flushM_cnt n).1
 · rfl
theorem Pt.wr_powers (p : Pt) (n : Nat) (i : Int) (s : List UInt8) : (p.wr n i s).m.powers = p.m.powers := by
 unfold Pt.wr
 split
 · exact (p.m.writeM_cnt n i (strB s)).2
 · rfl
theorem Pt.fl_powers (p : Pt) (n : Nat) : (p.fl n).m.powers = p.m.powers := by
 unfold Pt.fl
 split
 · exact (p.m.flushM_cnt n).2
 · rfl
section
variable {Z : DK} {w w' : World} {g gd n : Nat} {S T : Nat -> Prop} {e : Int} {cs : Array Value} {t : TypeId} {m : RM}
theorem set1_twice (cs : Array Value) (u v : Value) : (cs.setIfInBounds 1 u).setIfInBounds 1 v = cs.setIfInBounds 1 v := by simp
theorem LeftP.trans {w1 w2 : World} {S' : Nat -> Prop} {x : Int} {q : Pt} (hs : ∀ k, S' k -> S k \/ w.heap.size <= k) (ho : Only (fun k => S k \/ k = g) w w1)
 (l : LeftP Z w1 g gd S' n (cs.setIfInBounds 1 (.int .i64 x)) t q w2) : LeftP Z w g gd S n cs t q w2 := by
 obtain ⟨S2, d2, hs2, b2, ho2⟩ := l
 refine ⟨S2, d2, fun k hk => ?_, ?_, ?_⟩
 · rcases hs2 k hk with h1 | h1
   · exact hs k h1
   · exact .inr (Nat.le_trans ho.size h1)
 · rw [set1_twice] at b2
   exact b2
 · refine ho.trans' ho2 (fun k hk hT => ?_)
   rcases hT with h1 | h1
   · rcases hs k h1 with h2 | h2
     · exact .inl h2
     · omega
   · exact .inr h1
theorem LeftP.nog {w1 : World} {p : Pt} (hlt : g < w.heap.size) (hg : ¬ S g) (l : LeftP Z w g gd S n cs t p w1) : ∃ S', Z.D w1 gd S' n p.m /\ ¬ S' g /\ PoB w1 g gd p.e (cs.setIfInBounds 1 (.int .i64 p.e)) t /\ (∀ k, S' k -> S k \/ w.heap.size <= k) /\ Only (fun k => S k \/ k = g) w w1 := by
 obtain ⟨S', d', hs, b', ho⟩ := l
 refine ⟨S', d', fun hh => ?_, b', hs, ho⟩
 rcases hs g hh with h1 | h1
 · exact hg h1
 · omega
theorem LeftP.blk {w1 : World} {q : Pt} {k : Nat} (l : LeftP Z w g gd S n cs t q w1) (hk : k < w.heap.size) (h1 : ¬ S k) (h2 : k ≠ g) : w1.heap[k]? = w.heap[k]? := by
 obtain ⟨_, _, _, _, ho⟩ := l
 exact ho.block k hk (fun hh => hh.elim h1 h2)
theorem load_u64 {W : World} {ad : Addr} {v : Int} (h : W.cell? ad = some (.int .u64 v)) : (loadVar 89 ad).run Tryz.prog W = .ok (.int .u64 v) W := by
 simp [loadVar, isAgg, run_underlying Tryz.underlying89, go_sem, h]
def Mk4 (W : World) (g o : Nat) (k : Mk) : Prop := W.cell? ⟨g, o, none⟩ = some (.int .u64 (k.num : Int)) /\ W.cell? ⟨g, o + 1, none⟩ = some (.int .u64 (k.turn : Int)) /\ W.cell? ⟨g, o + 2, none⟩ = some (.int .u32 (k.pos : Int)) /\ W.cell? ⟨g, o + 3, none⟩ = some (.int .u32 (k.ring : Int))
theorem mk4 {W : World} {g : Nat} {k : Mk} (h : W.heap[g]? = some (.cells (mkC k) 137 (0, 0))) : Mk4 W g 0 k := ⟨cell_of_row W _ 0 _ _ (0, 0) h, cell_of_row W _ 1 _ _ (0, 0) h, cell_of_row W _ 2 _ _ (0, 0) h, cell_of_row W _ 3 _ _ (0, 0) h⟩
theorem poan_any (p : Pt) (k : Mk) (d : Z.D w gd S n p.m) (ok : p.m.Ok n) (hw : p.m.wrote < 1073741824) (hk : k.Fit) (h : PoB w g gd p.e cs t) (hg : ¬ S g) :
 Calls Tryz.prog 106 #[.pointer (some ⟨g, 0, none⟩), .agg (mkC k)] w (RetPo Z w g gd S n cs t (p.anchor n k)) := by
 obtain ⟨s, t', po, r⟩ := k
 have hs64 : s < 18446744073709551616 := hk.n
 obtain ⟨w0, hw0⟩ : ∃ w0, w.alloc (.cells #[.int .u64 (s : Int), .int .u64 (t' : Int), .int .u32 (po : Int), .int .u32 (r : Int)] 137) = w0 := ⟨_, rfl⟩
 have hb : Below w.heap.size w w0 := by rw [<- hw0]; exact (Below.refl _ _).alloc (Nat.le_refl _) _
 have h1 : w0.heap[w.heap.size]? = some (.cells (mkC ⟨s, t', po, r⟩) 137 (0, 0)) := by rw [<- hw0]; exact heap_alloc_new w _
 have hlt0 : w.heap.size < w0.heap.size := (Array.getElem?_eq_some_iff.1 h1).1
 have hglt := h.lt
 have M0 := lH (mk4 h1)
 have CA := lH (anchor_any ⟨s, t', po, r⟩ w0.drew hk)
 have hal := anc_len s t' po r
 have ean : (Mk.mk s t' po r).anc = anc s t' po r := rfl
 obtain ⟨A, hA⟩ : ∃ A, anc s t' po r = A := ⟨_, rfl⟩
 rw [ean, hA] at CA
 rw [hA] at hal
 obtain ⟨i, hi⟩ : ∃ i : Nat, s % 2 = i := ⟨_, rfl⟩
 have hi2 : i < 2 := by omega
 have hi3 : (s : Int) % 2 = (i : Int) := by omega
 have hi4 : (s : Int).tmod 2 = (i : Int) := by rw [Int.tmod_eq_emod_of_nonneg (by omega)]; exact hi3
 have eP : p.anchor n ⟨s, t', po, r⟩ = (p.wr n (i : Int) A).fl n := by
  show (p.wr n ((s % 2 : Nat) : Int) (Mk.mk s t' po r).anc).fl n = _
  rw [ean, hA, hi]
 rw [eP]
 have CW : Hid (∀ W, Below w.heap.size w W -> Calls Tryz.prog 105 #[.pointer (some ⟨g, 0, none⟩), .int .i64 (i : Int), .agg (cellsB A).toArray] W (RetPo Z W g gd S n cs t (p.wr n (i : Int) A))) := lH (fun W hW => powr_any p i A (Z.only d (Only.of_below (S := fun _ => False) hW (Nat.le_refl _)) (fun _ _ h => h)) ok hw (by omega) hal (h.below hW) hg)
 have CFl : Hid (∀ W W', Below w.heap.size w W -> LeftP Z W g gd S n cs t (p.wr n (i : Int) A) W' -> Calls Tryz.prog 104 #[.pointer (some ⟨g, 0, none⟩)] W' (fun e w' => e = .returned (.tuple #[]) /\ LeftP Z w g gd S n cs t ((p.wr n (i : Int) A).fl n) w')) := lH (fun W W' hW l => by
  have hltW : g < W.heap.size := Nat.lt_of_lt_of_le hglt hW.size
  obtain ⟨S', d', hg', b', hs', ho'⟩ := l.nog hltW hg
  refine (pofl_any _ d' (Pt.wr_ok ok hw _ _) b' hg').mono ?_
  rintro e w' ⟨he, l2⟩
  exact ⟨he, LeftP.from hW (LeftP.trans hs' ho' l2)⟩)
 obtain ⟨q, hq⟩ : ∃ q, p.wr n (i : Int) A = q := ⟨_, rfl⟩
 obtain ⟨q2, hq2⟩ : ∃ q2, q.fl n = q2 := ⟨_, rfl⟩
 rw [hq, hq2]
 rw [hq] at CW CFl
 rw [hq2] at CFl
 have B0 := lH hb
 have W0 := lH hw0
 have H1 := lH h1
 have SL : Hid (∀ k, S k -> k < w.heap.size) := lH (fun k hk => Z.lt d k hk)
 clear hq hq2 eP hb hw0 h1 hal hA ean h d ok hw hk
 have hii : IntKind.i64.wrap (i : Int) = (i : Int) := by rw [IntKind.wrap_i64]; omega
 go_enter Tryz.func106, Tryz.ntmps106
 go_upto_region 1 with fail
 unfold mkC
 go_wp2_with fail
 rw [W0.out]
 refine wp_region_held_drew (S := fun W => W.heap[w.heap.size]? = some (.cells (mkC ⟨s, t', po, r⟩) 137 (0, 0))) (by kernel_rfl) H1.out (fun hHeld => ?_)
 refine tk9 (i := 0) (h := ?_)
 try simp only [aP,aN,aS,aZ,aC]
 refine tk9 (i := 1) (h := ?_)
 try simp only [aP,aN,aS,aZ,aC]
 refine tk9 (i := 2) (hy := (yieldsIf_loadG (by rfl) 89 (.tmp 5) rfl ⟨w.heap.size, 0, none⟩ rfl _ (fun W hW => load_u64 (cell_of_row W _ 0 _ _ (0, 0) hW)))) (h := ?_)
 try simp only [aP,aN,aS,aZ,aC]
 refine tk9 (i := 3) (h := ?_)
 try simp only [aP,aN,aS,aZ,aC]
 refine tk9 (i := 4) (h := ?_)
 try simp only [aP,aN,aS,aZ,aC]
 refine tk9 (i := 5) (hy := (yieldsIf_loadG (by rfl) 137 (.tmp 3) rfl ⟨w.heap.size, 0, none⟩ rfl _ (fun W hW => load_mk hW))) (h := ?_)
 try simp only [aP,aN,aS,aZ,aC]
 refine rd9 (i := 6) (h := fun K hK => ?_)
 go_simp
 refine CA.out.mono ?_
 rintro e w6 ⟨rfl, b6⟩
 have hS6 := (b6.block _ hlt0).trans H1.out
 have H6 := lH hS6
 have HL6 : Hid (w.heap.size < w6.heap.size) := lH (Array.getElem?_eq_some_iff.1 hS6).1
 have B6 := lH (B0.out.drew.trans (b6.mono B0.out.size))
 clear b6
 refine hK _ _ hS6 (fun hH6 => ?_)
 clear hK K
 try simp only [aP,aN,aS,aZ,aC]
 refine rd9 (i := 7) (h := fun K hK => ?_)
 go_simp
 refine (CW.out _ B6.out).mono ?_
 rintro e w7 ⟨rfl, l7⟩
 have L7 := lH l7
 have hS7 := (l7.blk HL6.out (fun hh => by have := SL.out _ hh; omega) (by omega)).trans H6.out
 clear l7
 refine hK _ _ hS7 (fun hH7 => ?_)
 clear hK K
 try simp only [aP,aN,aS,aZ,aC]
 refine wpAnyH_done (by kernel_rfl) ?_ _
 go_wp2_with (go_at_call 104; refine (CFl.out _ _ B6.out L7.out).mono ?_; rintro e w8 ⟨rfl, l8⟩)
 go_end0
 exact ⟨rfl, l8⟩
end
def jC (gd gp : Nat) (e : Int) (j : JM) : Array Value :=
 #[.pointer (some ⟨gd, 0, none⟩), .int .i64 e, .int .u64 (j.k.num : Int), .int .u64 (j.k.turn : Int), .int .u32 (j.k.pos : Int), .int .u32 (j.k.ring : Int), .int .i64 (j.lives : Int), .int .i64 (j.used : Int), .map (some gp)]
structure JM.Ok (j : JM) (n : Nat) : Prop where
 nm : j.k.num < 9223372036854775808
 tn : j.k.turn < 9223372036854775808
 r1 : 8 <= j.k.ring
 r2 : j.k.ring <= 1024
 r3 : j.k.ring + 10 <= n
 ps : j.k.pos < j.k.ring
 lv : j.lives <= 1073741824
 us : j.used <= 1073741824
 fl : j.fresh.length = j.homes n
 fs : ∀ s ∈ j.fresh, s.size = 0 \/ s.size = 512
structure JO (w : World) (g gd gp n : Nat) (e : Int) (j : JM) : Prop where
 blk : w.heap[g]? = some (.cells (jC gd gp e j) 142 (0, 0))
 map : ∃ D : DU, w.ownsMap Tryz.prog 3 secElem gp j.used D /\ MapOf D (j.homes n) j.fresh
 ok : j.Ok n
 ne : g ≠ gp
section
variable {Z : DK} {w w' : World} {g gd gp n : Nat} {S T : Nat -> Prop} {e : Int} {j : JM} {m : RM}
theorem JO.lt (h : JO w g gd gp n e j) : g < w.heap.size := (Array.getElem?_eq_some_iff.1 h.blk).1
theorem JO.ltp (h : JO w g gd gp n e j) : gp < w.heap.size := by
 obtain ⟨D, h1, _⟩ := h.map
 exact h1.lt
theorem JO.only (h : JO w g gd gp n e j) (ho : Only T w w') (h1 : ¬ T g) (h2 : ¬ T gp) : JO w' g gd gp n e j := by
 obtain ⟨D, hm, hD⟩ := h.map
 exact ⟨(ho.block g h.lt h1).trans h.blk, ⟨D, ownsMap_only hm ho h2, hD⟩, h.ok, h.ne⟩
theorem JO.below (h : JO w g gd gp n e j) (hb : Below w.heap.size w w') : JO w' g gd gp n e j := h.only (Only.of_below (S := fun _ => False) hb (Nat.le_refl _)) (fun h => h) (fun h => h)
theorem JO.drew (h : JO w g gd gp n e j) : JO w.drew g gd gp n e j := ⟨h.blk, h.map, h.ok, h.ne⟩
theorem JO.cell (h : JO w g gd gp n e j) (k : Nat) : w.cell? ⟨g, k, none⟩ = (jC gd gp e j)[k]? := cell_of_row w g k _ _ (0, 0) h.blk
theorem JO.fr (h : JO w g gd gp n e j) (k : Nat) : w.frozen? ⟨g, k, none⟩ = false := frozen_of_row w g k _ _ h.blk
theorem JO.po (h : JO w g gd gp n e j) : PoB w g gd e (jC gd gp e j) 142 := ⟨h.blk, rfl, rfl⟩
theorem JO.c0 (h : JO w g gd gp n e j) : w.cell? ⟨g, 0, none⟩ = some (.pointer (some ⟨gd, 0, none⟩)) := h.cell 0
theorem JO.c1 (h : JO w g gd gp n e j) : w.cell? ⟨g, 1, none⟩ = some (.int .i64 e) := h.cell 1
theorem JO.c2 (h : JO w g gd gp n e j) : w.cell? ⟨g, 2, none⟩ = some (.int .u64 (j.k.num : Int)) := h.cell 2
theorem JO.c3 (h : JO w g gd gp n e j) : w.cell? ⟨g, 3, none⟩ = some (.int .u64 (j.k.turn : Int)) := h.cell 3
theorem JO.c4 (h : JO w g gd gp n e j) : w.cell? ⟨g, 4, none⟩ = some (.int .u32 (j.k.pos : Int)) := h.cell 4
theorem JO.c5 (h : JO w g gd gp n e j) : w.cell? ⟨g, 5, none⟩ = some (.int .u32 (j.k.ring : Int)) := h.cell 5
theorem JO.c6 (h : JO w g gd gp n e j) : w.cell? ⟨g, 6, none⟩ = some (.int .i64 (j.lives : Int)) := h.cell 6
theorem JO.c7 (h : JO w g gd gp n e j) : w.cell? ⟨g, 7, none⟩ = some (.int .i64 (j.used : Int)) := h.cell 7
theorem JO.c8 (h : JO w g gd gp n e j) : w.cell? ⟨g, 8, none⟩ = some (.map (some gp)) := h.cell 8
theorem JO.mark (h : JO w g gd gp n e j) : (loadVar 137 ⟨g, 2, none⟩).run Tryz.prog w = .ok (.agg (mkC j.k)) w := by
 refine run_loadVar_part w g 2 _ _ (jC gd gp e j).toList [.int .u64 (j.k.num : Int), .int .u64 (j.k.turn : Int), .int .u32 (j.k.pos : Int), .int .u32 (j.k.ring : Int)] (0, 0) _ h.blk Tryz.underlying137 rfl infoMk (fun i v hv => ?_)
 match i, hv with
 | 0, hv => exact hv
 | 1, hv => exact hv
 | 2, hv => exact hv
 | 3, hv => exact hv
 | i + 4, hv => simp at hv
theorem JM.Ok.fit (h : j.Ok n) : j.k.Fit := ⟨by have := h.nm; omega, by have := h.tn; omega, by have := h.ps; have := h.r2; omega, by have := h.r2; omega⟩
theorem JO.port {w1 : World} {p : Pt} (h : JO w g gd gp n e j) (hg : ¬ S g) (hp : ¬ S gp) (l : LeftP Z w g gd S n (jC gd gp e j) 142 p w1) : JO w1 g gd gp n p.e j := by
 obtain ⟨S', d', hs, b', ho⟩ := l
 obtain ⟨D, hm, hD⟩ := h.map
 exact ⟨b'.blk, ⟨D, ownsMap_only hm ho (fun hh => hh.elim hp (fun e => h.ne e.symm)), hD⟩, h.ok, h.ne⟩
structure LeftJ (Z : DK) (w : World) (g gd gp n : Nat) (S : Nat -> Prop) (p : Pt) (j : JM) (w' : World) : Prop where
 d : ∃ S', Z.D w' gd S' n p.m /\ ∀ k, S' k -> S k \/ w.heap.size <= k
 o : JO w' g gd gp n p.e j
 y : Only (fun k => S k \/ k = g \/ k = gp) w w'
theorem LeftJ.same (d : Z.D w gd S n m) (h : JO w g gd gp n e j) : LeftJ Z w g gd gp n S ⟨m, e⟩ j w := ⟨⟨S, d, fun _ hk => .inl hk⟩, h, Only.refl _ _⟩
theorem LeftJ.below (hb : Below w.heap.size w w') (d : Z.D w gd S n m) (h : JO w g gd gp n e j) : LeftJ Z w g gd gp n S ⟨m, e⟩ j w' :=
 ⟨⟨S, Z.only d (Only.of_below (S := fun _ => False) hb (Nat.le_refl _)) (fun _ _ h => h), fun _ hk => .inl hk⟩, h.below hb, Only.of_below hb (Nat.le_refl _)⟩
theorem LeftJ.port {w1 : World} {p : Pt} (h : JO w g gd gp n e j) (hg : ¬ S g) (hp : ¬ S gp) (l : LeftP Z w g gd S n (jC gd gp e j) 142 p w1) : LeftJ Z w g gd gp n S p j w1 := by
 have h1 := h.port hg hp l
 obtain ⟨S', d', hs, b', ho⟩ := l
 exact ⟨⟨S', d', hs⟩, h1, ho.mono (fun k _ hk => hk.imp id .inl)⟩
theorem LeftJ.nog {p : Pt} (l : LeftJ Z w g gd gp n S p j w') (hg : ¬ S g) (hp : ¬ S gp) (h1 : g < w.heap.size) (h2 : gp < w.heap.size) : ∃ S', Z.D w' gd S' n p.m /\ (∀ k, S' k -> S k \/ w.heap.size <= k) /\ ¬ S' g /\ ¬ S' gp := by
 obtain ⟨S', d', hs⟩ := l.d
 exact ⟨S', d', hs, fun hh => (hs g hh).elim hg (by omega), fun hh => (hs gp hh).elim hp (by omega)⟩
theorem LeftJ.trans {w1 : World} {p q : Pt} {j1 j2 : JM} {S' : Nat -> Prop} (l : LeftJ Z w g gd gp n S p j1 w1) (hs : ∀ k, S' k -> S k \/ w.heap.size <= k) (l2 : LeftJ Z w1 g gd gp n S' q j2 w') : LeftJ Z w g gd gp n S q j2 w' := by
 obtain ⟨S2, d2, hs2⟩ := l2.d
 refine ⟨⟨S2, d2, fun k hk => ?_⟩, l2.o, l.y.trans' l2.y (fun k hk hT => ?_)⟩
 · rcases hs2 k hk with h1 | h1
   · exact hs k h1
   · exact .inr (Nat.le_trans l.y.size h1)
 · rcases hT with h1 | h1
   · rcases hs k h1 with h2 | h2
     · exact .inl h2
     · omega
   · exact .inr h1
theorem LeftJ.from {w0 : World} {p : Pt} (hb : Below w.heap.size w w0) (l : LeftJ Z w0 g gd gp n S p j w') : LeftJ Z w g gd gp n S p j w' := by
 obtain ⟨S2, d2, hs2⟩ := l.d
 exact ⟨⟨S2, d2, fun k hk => (hs2 k hk).imp id fun h => Nat.le_trans hb.size h⟩, l.o, (Only.of_below hb (Nat.le_refl _)).trans l.y⟩
theorem jnone_any (h : JO w g gd gp n e j) : Calls Tryz.prog 72 #[.pointer (some ⟨g, 0, none⟩)] w (RetW w (.bool false)) := by
 have c0 := h.c0
 clear h
 go_enter Tryz.func72, Tryz.ntmps72
 go_wp2_with fail
 go_ret
 exact ⟨rfl, rfl⟩
def RetQ (w : World) (v : Value) (e : Ending) (w' : World) : Prop := e = .returned v /\ ∃ k, w' = w.drewN k
theorem RetQ.below {v : Value} {en : Ending} (h : RetQ w v en w') : RetV2 w v en w' := by
 obtain ⟨h1, k, rfl⟩ := h
 exact ⟨h1, ⟨rfl, rfl, rfl, Nat.le_refl _, fun _ _ => rfl⟩⟩
theorem JO.drewN (h : JO w g gd gp n e j) (k : Nat) : JO (w.drewN k) g gd gp n e j := ⟨h.blk, h.map, h.ok, h.ne⟩
theorem DK.drewN (d : Z.D w gd S n m) (k : Nat) : Z.D (w.drewN k) gd S n m := Z.only d ⟨rfl, rfl, rfl, Nat.le_refl _, fun _ _ _ => rfl⟩ (fun (_ : Nat) (_ : S _) (h : False) => h)
theorem jcheck_any (h : JO w g gd gp n e j) (d : Z.D w gd S n m) (ok : m.Ok n) : Calls Tryz.prog 111 #[.pointer (some ⟨g, 0, none⟩)] w (RetQ w (.int .i64 (chkE ⟨m, e⟩ j))) := by
 have N := lH (jnone_any h)
 have L : Hid (∀ k, Calls Tryz.prog 107 #[.pointer (some ⟨gd, 0, none⟩)] (w.drewN k) fun e w' => e = .returned (.int .i64 (m.powers : Int)) /\ w' = w.drewN k) := lH (fun k => RetW.still (Z.lives_q (DK.drewN d k) ok))
 have c0 := h.c0
 have c1 := h.c1
 have c6 := h.c6
 obtain ⟨lv, hlv⟩ : ∃ lv, j.lives = lv := ⟨_, rfl⟩
 obtain ⟨mp, hmp⟩ : ∃ mp, m.powers = mp := ⟨_, rfl⟩
 have eE : chkE ⟨m, e⟩ j = if e ≠ 0 \/ mp ≠ lv then 8 else 0 := by unfold chkE; rw [hlv, hmp]
 rw [eE]
 rw [hlv] at c6
 rw [hmp] at L
 clear eE hlv hmp h d ok
 by_cases he : e = 0
 · have he' : (e != 0) = false := by rw [he]; rfl
   by_cases hl : mp = lv
   · have hl' : ((mp : Int) != (lv : Int)) = false := by rw [hl]; simp
     rw [if_neg (by rintro (h1 | h1); exact h1 he; exact h1 hl)]
     clear he hl
     go_enter Tryz.func111, Tryz.ntmps111
     go_wp2_with (go_at_call 72; refine N.out.mono ?_; rintro e w1 ⟨rfl, rfl⟩)
     go_quiet ((go_at_call 107; refine Calls.quiet_of_same (L.out _)))
     go_wp2_with fail
     go_ret
     exact ⟨rfl, _, rfl⟩
   · have hl' : ((mp : Int) != (lv : Int)) = true := by rw [bne_iff_ne]; omega
     rw [if_pos (.inr hl)]
     clear he hl
     go_enter Tryz.func111, Tryz.ntmps111
     go_wp2_with (go_at_call 72; refine N.out.mono ?_; rintro e w1 ⟨rfl, rfl⟩)
     go_quiet ((go_at_call 107; refine Calls.quiet_of_same (L.out _)))
     go_wp2_with fail
     go_ret
     exact ⟨rfl, _, rfl⟩
 · have he' : (e != 0) = true := by rw [bne_iff_ne]; exact he
   rw [if_pos (.inl he)]
   clear he
   go_enter Tryz.func111, Tryz.ntmps111
   go_wp2_with (go_at_call 72; refine N.out.mono ?_; rintro e w1 ⟨rfl, rfl⟩)
   go_quiet (fail)
   go_wp2_with fail
   go_ret
   exact ⟨rfl, _, rfl⟩
theorem jfree_any (h : JO w g gd gp n e j) : Calls Tryz.prog 75 #[.pointer (some ⟨g, 0, none⟩)] w (RetQ w (.int .i64 ((j.k.ring : Int) - (j.used : Int)))) := by
 have N := lH (jnone_any h)
 have c5 := h.c5
 have c7 := h.c7
 have r2 := h.ok.r2
 have us := h.ok.us
 obtain ⟨r, hr⟩ : ∃ r, j.k.ring = r := ⟨_, rfl⟩
 obtain ⟨u, hu⟩ : ∃ u, j.used = u := ⟨_, rfl⟩
 rw [hr] at c5 r2 ⊢
 rw [hu] at c7 us ⊢
 have e1 : IntKind.i64.wrap ((r : Int) - (u : Int)) = (r : Int) - (u : Int) := by rw [IntKind.wrap_i64]; omega
 have e2 : IntKind.i64.wrap (r : Int) = (r : Int) := by rw [IntKind.wrap_i64]; omega
 clear h hr hu
 go_enter Tryz.func75, Tryz.ntmps75
 go_wp2_with (go_at_call 72; refine N.out.mono ?_; rintro e w1 ⟨rfl, rfl⟩)
 go_quiet (fail)
 go_wp2_with fail
 go_ret
 exact ⟨rfl, _, rfl⟩
theorem jturn_any (h : JO w g gd gp n e j) (ht : 1 <= j.k.turn) : Calls Tryz.prog 40 #[.pointer (some ⟨g, 0, none⟩)] w (RetW w (.int .u64 ((j.k.turn - 1 : Nat) : Int))) := by
 have N := lH (jnone_any h)
 have c3 := h.c3
 have tn := h.ok.tn
 obtain ⟨r, hr⟩ : ∃ r, j.k.turn = r := ⟨_, rfl⟩
 rw [hr] at c3 tn ht ⊢
 have e1 : ((r - 1 : Nat) : Int) = (r : Int) - 1 := by omega
 have e2 : IntKind.u64.wrap ((r : Int) - 1) = (r : Int) - 1 := by rw [IntKind.wrap_u64]; omega
 rw [e1]
 clear h hr e1
 go_enter Tryz.func40, Tryz.ntmps40
 go_wp2_with (go_at_call 72; refine N.out.mono ?_; rintro e w1 ⟨rfl, rfl⟩)
 go_ret
 exact ⟨rfl, rfl⟩
theorem jhomes_any (h : JO w g gd gp n e j) (d : Z.D w gd S n m) (ok : m.Ok n) : Calls Tryz.prog 126 #[.pointer (some ⟨g, 0, none⟩)] w (RetV2 w (.int .i64 (j.homes n : Nat))) := by
 have N := lH (jnone_any h)
 have CL : Hid (∀ W, Below w.heap.size w W -> Calls Tryz.prog 103 #[.pointer (some ⟨gd, 0, none⟩)] W fun e w' => e = .returned (.int .i64 (n : Int)) /\ W = w') := lH (fun W hW => Z.len_q (Z.only d (Only.of_below (S := fun _ => False) hW (Nat.le_refl _)) (fun _ _ h => h)) ok)
 have n1 := ok.n1
 have n2 := ok.n2
 have r3 := h.ok.r3
 have hc : ∀ W, JO W g gd gp n e j -> W.cell? ⟨g, 0, none⟩ = some (.pointer (some ⟨gd, 0, none⟩)) /\ W.cell? ⟨g, 2, none⟩ = some (.int .u64 (j.k.num : Int)) /\ W.cell? ⟨g, 3, none⟩ = some (.int .u64 (j.k.turn : Int)) /\ W.cell? ⟨g, 4, none⟩ = some (.int .u32 (j.k.pos : Int)) /\ W.cell? ⟨g, 5, none⟩ = some (.int .u32 (j.k.ring : Int)) := fun W hW => ⟨hW.c0, hW.c2, hW.c3, hW.c4, hW.c5⟩
 have H := lH h
 have HC := lH hc
 have hf := h.ok.fit
 have e1 : j.homes n = n - 2 - j.k.ring := rfl
 have CA : Hid (∀ W, Calls Tryz.prog 114 #[.agg #[.int .u64 (j.k.num : Int), .int .u64 (j.k.turn : Int), .int .u32 (j.k.pos : Int), .int .u32 (j.k.ring : Int)], .int .i64 0] W (RetV2 W (.int .i64 ((2 + j.k.ring : Nat) : Int)))) := lH (fun W => atHome_any j.k 0 W hf (by omega))
 rw [e1]
 obtain ⟨a, ha⟩ : ∃ a, j.k.num = a := ⟨_, rfl⟩
 obtain ⟨b, hb⟩ : ∃ b, j.k.turn = b := ⟨_, rfl⟩
 obtain ⟨c, hcc⟩ : ∃ c, j.k.pos = c := ⟨_, rfl⟩
 obtain ⟨r, hr⟩ : ∃ r, j.k.ring = r := ⟨_, rfl⟩
 rw [ha, hb, hcc, hr] at CA HC
 rw [hr] at r3 ⊢
 have e3 : ((n - 2 - r : Nat) : Int) = (n : Int) - (2 + (r : Int)) := by omega
 have e4 : ((2 + r : Nat) : Int) = 2 + (r : Int) := by omega
 rw [e3]
 rw [e4] at CA
 have e5 : IntKind.i64.wrap ((n : Int) - (2 + (r : Int))) = (n : Int) - (2 + (r : Int)) := by rw [IntKind.wrap_i64]; omega
 clear h d ok e1 hr e3 e4 ha hb hcc hc hf
 go_enter Tryz.func126, Tryz.ntmps126
 go_wp2_with (go_at_call 72; refine N.out.mono ?_; rintro e w1 ⟨rfl, rfl⟩)
 go_region_held3 (fun W => W.cell? ⟨g, 0, none⟩ = some (.pointer (some ⟨gd, 0, none⟩)) /\ W.cell? ⟨g, 2, none⟩ = some (.int .u64 (a : Int)) /\ W.cell? ⟨g, 3, none⟩ = some (.int .u64 (b : Int)) /\ W.cell? ⟨g, 4, none⟩ = some (.int .u32 (c : Int)) /\ W.cell? ⟨g, 5, none⟩ = some (.int .u32 (r : Int)))
  (first | exact M7.out | exact HC.out _ H.out.drew | assumption)
  (first
    | (go_at_call 103; first | (refine (CL.out _ B7.out).mono ?_; rintro e w8 ⟨rfl, rfl⟩) | (refine (CL.out _ (Below.refl _ w).drew).mono ?_; rintro e w8 ⟨rfl, rfl⟩))
    | (go_at_call 114; refine (CA.out _).mono ?_; rintro e w7 ⟨rfl, b7⟩
       have B7 : Hid (Below w.heap.size w w7) := lH ((Below.refl _ w).drew.trans b7)
       have M7 := lH (HC.out _ (H.out.below B7.out))
       clear b7))
 all_goals
  go_wp2_with fail
  go_ret
  exact ⟨rfl, B7.out⟩
end
section
variable {Z : DK} {w w' : World} {g gd gp n : Nat} {S T : Nat -> Prop} {e : Int} {j : JM} {m : RM}
theorem jishome_any (i : Int) (h : JO w g gd gp n e j) (d : Z.D w gd S n m) (ok : m.Ok n) (hi : -9223372036854775808 <= i /\ i <= 9223372036854775807) : Calls Tryz.prog 112 #[.pointer (some ⟨g, 0, none⟩), .int .i64 i] w (RetV2 w (.bool (decide (0 <= i /\ i < (j.homes n : Int))))) := by
 have C := lH (jhomes_any h d ok)
 have n2 := ok.n2
 have hn : j.homes n <= 4096 := by show n - 2 - j.k.ring <= 4096; omega
 obtain ⟨H, hH⟩ : ∃ H, j.homes n = H := ⟨_, rfl⟩
 rw [hH] at C hn ⊢
 obtain ⟨i1, i2⟩ := hi
 clear h d ok hH
 by_cases h0 : 0 <= i
 · have h0' : decide (0 <= i) = true := decide_eq_true h0
   obtain ⟨b, hb⟩ : ∃ b, decide (i < (H : Int)) = b := ⟨_, rfl⟩
   have hb2 : decide (0 <= i /\ i < (H : Int)) = b := by rw [<- hb, Bool.eq_iff_iff, decide_eq_true_iff, decide_eq_true_iff]; omega
   rw [hb2]
   clear hb2
   go_enter Tryz.func112, Tryz.ntmps112
   go_wp2_with (go_at_call 126; refine C.out.mono ?_; rintro e w1 ⟨rfl, b1⟩)
   go_ret
   exact ⟨rfl, b1⟩
 · have h0' : decide (0 <= i) = false := decide_eq_false h0
   rw [decide_eq_false (fun hh => h0 hh.1)]
   go_enter Tryz.func112, Tryz.ntmps112
   go_wp2_with fail
   go_ret
   exact ⟨rfl, Below.refl _ _⟩
theorem takeF_snoc (f : List ByteArray) (l : List Ch) (k : Nat) (c : Ch) (h : l[k]? = some c) : takeF f (l.take (k + 1)) = (takeF f (l.take k)).set c.home (strB c.data) := by
 rw [List.take_add_one, h]
 unfold takeF
 rw [List.foldl_append]
 rfl
theorem takeF_len (f : List ByteArray) (l : List Ch) : (takeF f l).length = f.length := by
 unfold takeF
 induction l generalizing f with
 | nil => rfl
 | cons c r ih => rw [List.foldl_cons, ih]; simp
theorem takeF_sz (f : List ByteArray) (l : List Ch) (hl : ChOk l) (h : ∀ s ∈ f, s.size = 0 \/ s.size = 512) : ∀ s ∈ takeF f l, s.size = 0 \/ s.size = 512 := by
 unfold takeF
 induction l generalizing f with
 | nil => exact h
 | cons c r ih =>
   rw [List.foldl_cons]
   refine ih (f.set c.home (strB c.data)) (fun d hd => hl d (by simp [hd])) (fun s hs => ?_)
   rcases List.mem_or_eq_of_mem_set hs with h4 | h4
   · exact h s h4
   · rw [h4]
     right
     rw [strB_size]
     exact hl c (by simp)
theorem JO.sizeH (h : JO w g gd gp n e j) (hn : n <= 4096) : j.homes n < 4096 := by
 have := h.ok.r1
 show n - 2 - j.k.ring < 4096
 omega
theorem MapOf.put' {D : DU} {N : Nat} {f : List ByteArray} (h : MapOf D N f) (hf : f.length = N) {i : Nat} (hi : i < N) {l : List UInt8} (hl : l.length = 512) : MapOf (D.put (kI i) (.lit (.string l))) N (f.set i (strB l)) := by
 have h1 := h.put hf hi (s := strB l) (by rw [strB_size, hl]; decide)
 have e : lst (strB l) = l := by simp [lst, strB]
 rwa [e] at h1
theorem jtake_any (gl nl cl : Nat) (l : List Ch) (h : JO w g gd gp n e j) (hn : n <= 4096) (hc : CB w gl l) (hok : ChOk l) (hl : nl = l.length) (hl1 : nl <= 1024) (hh : ∀ c ∈ l, c.home < j.homes n) (hu : j.used <= 1073740000) (ht : j.k.turn < 9223372036854775000) (hg1 : gl ≠ g) (hg2 : gl ≠ gp) :
 Calls Tryz.prog 78 #[.pointer (some ⟨g, 0, none⟩), .slice (some ⟨gl, 0, none⟩) nl cl] w (fun en w' => en = .returned (.tuple #[]) /\ JO w' g gd gp n e (j.take l) /\ Only (fun k => k = g \/ k = gp) w w') := by
 have hgl := hc.lt
 have HL := lH hl
 have HOK := lH hok
 have HH := lH hh
 have HC := lH hc
 have H := lH h
 have hlt := h.lt
 have hltp := h.ltp
 have HN : Hid (j.homes n < 4096) := lH (h.sizeH hn)
 have hne := h.ne
 clear h hc hok hl hh
 go_enter Tryz.func78, Tryz.ntmps78
 go_wp2_with fail
 go_loopw [9] (fun i wr => ∃ k : Nat, k <= nl /\ i = .int .i64 (k : Int) /\ wr.heap[g]? = some (.cells (jC gd gp e j) 142 (0, 0)) /\ (∃ D : DU, wr.ownsMap Tryz.prog 3 secElem gp (j.used + k) D /\ MapOf D (j.homes n) (takeF j.fresh (l.take k))) /\ Only (fun k => k = g \/ k = gp) w wr) (fun i _ => nl - (Go.RowKit.intOf i).toNat)
 case atStart =>
  obtain ⟨D, hm, hD⟩ := H.out.map
  exact ⟨0, by omega, rfl, H.out.blk, ⟨D, hm, by rw [List.take_zero]; exact hD⟩, Only.refl _ _⟩
 case round =>
  obtain ⟨k, hk, rfl, qb, ⟨D, qm, qD⟩, qo⟩ := hrel
  by_cases hlt' : k < nl
  · obtain ⟨c, hc⟩ : ∃ c, l[k]? = some c := ⟨_, List.getElem?_eq_getElem (by have := HL.out; omega)⟩
    have hcl : c.data.length = 512 := HOK.out c (List.mem_of_getElem? hc)
    have hch : c.home < j.homes n := HH.out c (List.mem_of_getElem? hc)
    have ld := (HC.out.only qo (by omega)).load HOK.out hc
    have LD := lH ld
    have ZN := lH (heap_alloc_new wr (.cells Tryz.zeroCells196 196))
    have HCL := lH hcl
    have HCH := lH hch
    have QB := lH qb
    have QM := lH qm
    have QD := lH qD
    have QO := lH qo
    have SN := lH (takeF_snoc j.fresh l k c hc)
    have bg : g < wr.heap.size := (Array.getElem?_eq_some_iff.1 qb).1
    have bgp : gp < wr.heap.size := qm.lt
    clear ld hcl hch qb qm qD qo hc
    go_upto_region 3 with (first
     | (refine wp_loadA rfl _ (.tmp 11) rfl ⟨gl, k * 513, none⟩ rfl _ LD.out ?_)
     | (refine wp_store_ch rfl (.tmp 5) (.tmp 12) rfl wr.heap.size c rfl rfl _ ZN.out zcCh HCL.out ?_; intro w5 q5 o5
        have Q5 := lH q5
        have O5 := lH (((Below.refl _ wr).alloc (Nat.le_refl _) _).trans (o5.to_below (B := wr.heap.size) (fun k hk => by omega) (by simp)))
        clear q5 o5))
    have B5 := lH ((O5.out.block g bg).trans QB.out)
    have M5 := lH (ownsMap_only QM.out (Only.of_below (S := fun _ => False) O5.out (Nat.le_refl _)) (fun h => h))
    have k8 : w5.cell? ⟨g, 8, none⟩ = some (.map (some gp)) := cell_of_row w5 g 8 _ _ (0, 0) B5.out
    have k0 := Q5.out.home
    have LS : Hid ((loadVar 185 ⟨wr.heap.size, 1, none⟩).run Tryz.prog w5.drew = .ok (.agg (cellsB c.data).toArray) w5.drew) := lH (Cb1.sec (w := w5.drew) Q5.out HCL.out)
    have M5d : Hid (w5.drew.ownsMap Tryz.prog 3 secElem gp (j.used + k) D) := lH (ownsMap_only M5.out (Only.refl (fun _ => False) w5).drew (fun h => h))
    have B5d : Hid (w5.drew.heap[g]? = some (.cells (jC gd gp e j) 142 (0, 0))) := lH B5.out
    have O5d : Hid (Only (fun k => k = g \/ k = gp) w w5.drew) := lH ((QO.out.trans (Only.of_below O5.out (Nat.le_refl _))).drew)
    go_still_tail 8, (by kernel_rfl)
    refine wpStill_step (fun K hK => ?_)
    refine stillLd rfl rfl LS.out ?_
    refine hK _ ?_
    clear hK K
    refine wpStill_nil ?_
    change wpList _ _ _ _ _ w5.drew
    try simp only [aP,aN,aS,aZ,aC]
    go_wp2_with (at_mapUpdate; refine wpList_mapUpdate_own w5.drew rfl (.tmp 16) (.tmp 18) (.tmp 20) 140 rfl 3 185 intK Tryz.underlying140 secElem gp (j.used + k) D rfl M5d.out (by simp only [maxLen]; omega) _ _ (kI c.home) rfl rfl (keyI (by have := HCH.out; have := HN.out; omega)) (.lit (.string c.data)) [] (secElem_mk HCL.out) ?_; intro w6 own6 g6
                 have OW6 := lH own6
                 have O6 := lH (Only.grown g6)
                 clear own6 g6)
    go_roundw
    case rel =>
     refine ⟨k + 1, by omega, by go_num, (O6.out.block g (Array.getElem?_eq_some_iff.1 B5d.out).1 hne).trans B5d.out, ⟨_, OW6.out, ?_⟩, O5d.out.trans' O6.out (fun k _ hk => .inr hk)⟩
     rw [SN.out]
     exact QD.out.put' (by rw [takeF_len]; exact H.out.ok.fl) HCH.out HCL.out
    case measure => simp [Go.RowKit.intOf]; omega
  · obtain rfl : k = nl := by omega
    have hfull : l.take k = l := by rw [HL.out]; exact List.take_length
    rw [hfull] at qD
    have hfit := H.out.ok.fit
    have hok := H.out.ok
    obtain ⟨x, hx⟩ : ∃ x, j.k.ahead (k + 1) = x := ⟨_, rfl⟩
    have hxr : x < j.k.ring := by rw [<- hx]; exact Nat.mod_lt _ (by have := hok.r1; omega)
    have hr2 := hok.r2
    have hus := hok.us
    have htn := hok.tn
    have CA : Hid (∀ W, Calls Tryz.prog 118 #[.agg #[.int .u64 (j.k.num : Int), .int .u64 (j.k.turn : Int), .int .u32 (j.k.pos : Int), .int .u32 (j.k.ring : Int)], .int .i64 ((k : Int) + 1)] W (RetV2 W (.int .u32 (x : Int)))) := lH (fun W => by
     have := ahead_any j.k (k + 1) W hfit (by have := hok.r1; omega) (by omega)
     rw [hx] at this
     exact this)
    have ej : j.take l = { j with k := { j.k with pos := x, turn := j.k.turn + 1 }, used := j.used + (k + 1), fresh := takeF j.fresh l } := by
     unfold JM.take
     rw [<- HL.out, hx]
    have okT : (j.take l).Ok n := by
     rw [ej]
     exact ⟨hok.nm, by show j.k.turn + 1 < _; omega, hok.r1, hok.r2, hok.r3, hxr, hok.lv, by show j.used + (k + 1) <= _; omega, (takeF_len _ _).trans hok.fl, takeF_sz _ _ HOK.out hok.fs⟩
    rw [ej] at okT
    have EJ := lH ej
    obtain ⟨a, ha⟩ : ∃ a, j.k.num = a := ⟨_, rfl⟩
    obtain ⟨b, hb⟩ : ∃ b, j.k.turn = b := ⟨_, rfl⟩
    obtain ⟨c, hcc⟩ : ∃ c, j.k.pos = c := ⟨_, rfl⟩
    obtain ⟨r, hr⟩ : ∃ r, j.k.ring = r := ⟨_, rfl⟩
    obtain ⟨u, huu⟩ : ∃ u, j.used = u := ⟨_, rfl⟩
    have ejC : jC gd gp e j = #[.pointer (some ⟨gd, 0, none⟩), .int .i64 e, .int .u64 (a : Int), .int .u64 (b : Int), .int .u32 (c : Int), .int .u32 (r : Int), .int .i64 (j.lives : Int), .int .i64 (u : Int), .map (some gp)] := by unfold jC; rw [ha, hb, hcc, hr, huu]
    rw [ejC] at qb
    have OKT := lH okT
    have QD := lH qD
    have QM := lH qm
    have QO := lH qo
    have QB := lH qb
    have hgw : g < wr.heap.size := (Array.getElem?_eq_some_iff.1 qb).1
    have cells : ∀ W : World, W.heap[g]? = some (.cells #[.pointer (some ⟨gd, 0, none⟩), .int .i64 e, .int .u64 (a : Int), .int .u64 (b : Int), .int .u32 (c : Int), .int .u32 (r : Int), .int .i64 (j.lives : Int), .int .i64 (u : Int), .map (some gp)] 142 (0, 0)) -> W.cell? ⟨g, 2, none⟩ = some (.int .u64 (a : Int)) /\ W.cell? ⟨g, 3, none⟩ = some (.int .u64 (b : Int)) /\ W.cell? ⟨g, 4, none⟩ = some (.int .u32 (c : Int)) /\ W.cell? ⟨g, 5, none⟩ = some (.int .u32 (r : Int)) /\ W.cell? ⟨g, 7, none⟩ = some (.int .i64 (u : Int)) /\ W.frozen? ⟨g, 3, none⟩ = false /\ W.frozen? ⟨g, 4, none⟩ = false /\ W.frozen? ⟨g, 7, none⟩ = false := fun W hW =>
     ⟨cell_of_row W g 2 _ _ (0, 0) hW, cell_of_row W g 3 _ _ (0, 0) hW, cell_of_row W g 4 _ _ (0, 0) hW, cell_of_row W g 5 _ _ (0, 0) hW, cell_of_row W g 7 _ _ (0, 0) hW, frozen_of_row W g 3 _ _ hW, frozen_of_row W g 4 _ _ hW, frozen_of_row W g 7 _ _ hW⟩
    have CE := lH cells
    obtain ⟨k2, k3, k4, k5, k7, _, _, _⟩ := cells wr qb
    have e1 : IntKind.i64.wrap ((u : Int) + ((k : Int) + 1)) = (u : Int) + ((k : Int) + 1) := by rw [IntKind.wrap_i64]; omega
    have e2 : IntKind.u64.wrap ((b : Int) + 1) = (b : Int) + 1 := by rw [IntKind.wrap_u64]; omega
    have e3 : IntKind.i64.wrap ((k : Int) + 1) = (k : Int) + 1 := by rw [IntKind.wrap_i64]; omega
    rw [ha, hb, hcc, hr] at CA
    have JB := lH (And.intro ha (And.intro hb (And.intro hcc (And.intro hr huu))))
    clear qb qD qm qo okT ej hx hxr hfit hok hfull ejC cells ha hb hcc hr huu
    go_wp2_with (go_at_call 118; refine (CA.out _).mono ?_; rintro en w1 ⟨rfl, b1⟩
                 have q1 := (b1.block g hgw).trans QB.out
                 obtain ⟨n2', n3, n4, n5, n7, f3, f4, f7⟩ := CE.out w1 q1
                 have Q1 := lH q1
                 have B1 := lH b1
                 clear q1 b1)
    go_end0
    rw [EJ.out]
    obtain ⟨ha, hb, hcc, hr, huu⟩ := JB.out
    have r1 := heap_setCell_same w1 g 4 _ 142 (.int .u32 (x : Int)) Q1.out
    have r2 := heap_setCell_same _ g 3 _ 142 (.int .u64 ((b : Int) + 1)) r1
    have r3 := heap_setCell_same _ g 7 _ 142 (.int .i64 ((u : Int) + ((k : Int) + 1))) r2
    have ow : Only (fun k => k = g) w1 (((w1.setCell ⟨g, 4, none⟩ (.int .u32 (x : Int))).setCell ⟨g, 3, none⟩ (.int .u64 ((b : Int) + 1))).setCell ⟨g, 7, none⟩ (.int .i64 ((u : Int) + ((k : Int) + 1)))) := (((Only.refl _ w1).cell1 4 _).cell1 3 _).cell1 7 _
    refine ⟨rfl, ⟨r3.trans ?_, ⟨D, ?_, QD.out⟩, OKT.out, hne⟩, ?_⟩
    · unfold jC
      show some (Obj.cells (((#[_, _, _, _, _, _, _, _, _] : Array Value).setIfInBounds 4 _).setIfInBounds 3 _ |>.setIfInBounds 7 _) _ _) = some (Obj.cells #[_, _, .int .u64 (j.k.num : Int), .int .u64 ((j.k.turn + 1 : Nat) : Int), .int .u32 (x : Int), .int .u32 (j.k.ring : Int), _, .int .i64 ((j.used + (k + 1) : Nat) : Int), _] _ _)
      rw [ha, hb, hr, huu]
      rfl
    · refine (ownsMap_only (ownsMap_only QM.out (Only.of_below (S := fun _ => False) B1.out (Nat.le_refl _)) (fun h => h)) ow (fun hh => hne hh.symm)).mono ?_
      show j.used + k <= j.used + (k + 1)
      omega
    · exact ((QO.out.trans (Only.of_below B1.out (Nat.le_refl _))).trans' ow (fun k _ hk => .inl hk))
end
theorem built_fillC (parts : List (Nat × Value)) : Tryz.prog.built 196 parts = Instr.fill (#[(0, 1), (1, 512)][·]?) Tryz.zeroCells196 parts := by kernel_rfl
theorem built_ch (h : Int) (d : List UInt8) (hd : d.length = 512) : Tryz.prog.built 196 [(0, .int .i64 h), (1, .agg (cellsB d).toArray)] = some (.int .i64 h :: cellsB d).toArray := by
 obtain ⟨z, hz⟩ : ∃ z, Tryz.zeroCells196 = z := ⟨_, rfl⟩
 have hs : z.size = 513 := by rw [<- hz]; exact zcCh
 rw [built_fillC, hz]
 rw [fill_step _ _ 0 _ _ 0 1 rfl rfl (by omega)]
 have e1 : (z.toList.take 0 ++ (Value.int .i64 h).cells.toList ++ z.toList.drop (0 + 1)) = .int .i64 h :: z.toList.drop 1 := rfl
 have hz1 : (z.toList.drop 1).length = 512 := by rw [List.length_drop, Array.length_toList, hs]
 rw [e1, fill_step _ _ 1 _ _ 1 512 rfl (by show (cellsB d).toArray.size = 512; rw [cellsB_size]; exact hd) (by rw [List.size_toArray, List.length_cons, hz1]; decide)]
 show some _ = some _
 congr 1
 apply Array.toList_inj.1
 show (Value.int .i64 h :: z.toList.drop 1).take 1 ++ cellsB d ++ (Value.int .i64 h :: z.toList.drop 1).drop (1 + 512) = Value.int .i64 h :: cellsB d
 have e2 : (Value.int .i64 h :: z.toList.drop 1).drop (1 + 512) = [] := List.drop_eq_nil_of_le (by rw [List.length_cons, hz1]; decide)
 rw [e2, List.append_nil]
 rfl
theorem infoChZ : ∃ ie z, Tryz.prog.info? 196 = some ie /\ ie.zero = some z /\ ie.size = 513 /\ ie.bytes = 520 /\ z.cells.size = 513 := by
 have h : (Tryz.prog.info? 196).map (fun i => (i.size, i.bytes, i.zero.map (fun z => z.cells.size))) = some (513, 520, some 513) := by kernel_rfl
 cases hi : Tryz.prog.info? 196 with
 | none => rw [hi] at h; cases h
 | some ie =>
   rw [hi] at h
   simp only [Option.map_some, Option.some.injEq, Prod.mk.injEq] at h
   cases hz : ie.zero with
   | none => rw [hz] at h; simp at h
   | some z =>
     rw [hz] at h
     simp only [Option.map_some, Option.some.injEq] at h
     exact ⟨ie, z, rfl, hz, h.1, h.2.1, h.2.2⟩
theorem wp_slice_ch {w : World} {ops : Array Oper} {rest : List Oper} {o : Oper} {a : Act} {Q : Exit -> Act -> World -> Prop} (hg : o.guard = none) (x : Operand) (ho : o.op = .buildSlice 143 1 #[(0, x)]) (c : Ch) (hc : c.data.length = 512) (hx : a.eval x = .agg (chC c).toArray)
 (h : wpList Tryz.prog ops Q rest (a.put o.dst (.slice (some ⟨w.heap.size, 0, none⟩) 1 1)) (w.alloc (.cells (chC c).toArray 196))) : wpList Tryz.prog ops Q (o :: rest) a w := by
 obtain ⟨ie, z, hie, hz, hs, _, hzs⟩ := infoChZ
 refine wpList_buildSlice hg _ _ 1 _ ho (chC c).toArray ie z Tryz.underlying143 hie hz (by rw [hs]; decide) (by rw [hs]; decide) ?_ h
 simp only [List.map_toArray, List.map_cons, List.map_nil, hx]
 obtain ⟨b0, hb0⟩ : ∃ b0 : Array Value, (Array.range (1 * ie.size)).map (z.cells[· % z.cells.size]!) = b0 := ⟨_, rfl⟩
 have hbs : b0.size = 513 := by rw [<- hb0, Array.size_map, Array.size_range, hs]
 rw [hb0]
 have hlc : (chC c).toArray.size = 513 := by rw [@List.size_toArray _ (chC c)]; exact chC_len hc
 rw [fill_step (fun i => some (i * ie.size, ie.size)) b0 0 (.agg (chC c).toArray) [] 0 513 (by show some (0 * ie.size, ie.size) = some (0, 513); rw [hs]) hlc (by omega)]
 have e2 : b0.toList.drop (0 + 513) = [] := List.drop_eq_nil_of_le (by rw [Array.length_toList, hbs]; exact Nat.le_refl _)
 rw [e2, List.append_nil, List.take_zero, List.nil_append, Instr.fill]
 rfl
def OwnC (w : World) (base : Nat) (v : Value) (l : List Ch) : Prop := w.ownsRow base 196 513 v l.length (rowC l)
section
variable {w w' : World} {base n c : Nat} {A : Option Addr} {v : Value} {l : List Ch}
theorem OwnC.nil (w : World) (base : Nat) : OwnC w base (.slice none 0 0) [] := ⟨rfl, .inl ⟨rfl, rfl⟩⟩
theorem OwnC.form (h : OwnC w base v l) : (v = .slice none 0 0 /\ l = []) \/ ∃ g c, v = .slice (some ⟨g, 0, none⟩) l.length c /\ base <= g /\ CB w g l := by
 rcases h.2 with ⟨e, hn⟩ | ⟨g, c, cur, e, hb, hg, hn, hc, hs', ht⟩
 · exact .inl ⟨e, List.eq_nil_of_length_eq_zero hn⟩
 · refine .inr ⟨g, c, e, hb, cur.toList.drop (l.length * 513), ?_⟩
   rw [hg, <- ht, List.take_append_drop]
theorem OwnC.slice (h : OwnC w base v l) : ∃ A n c, v = .slice A n c /\ n = l.length := by
 rcases h.form with ⟨e, rfl⟩ | ⟨g, c, e, _, _⟩
 · exact ⟨_, _, _, e, rfl⟩
 · exact ⟨_, _, _, e, rfl⟩
theorem OwnC.row (h : OwnC w base (.slice A n c) l) (hn : 0 < n) : ∃ g, A = some ⟨g, 0, none⟩ /\ n = l.length /\ base <= g /\ CB w g l := by
 rcases h.form with ⟨e, rfl⟩ | ⟨g, c', e, hb, hc⟩
 · simp only [Value.slice.injEq] at e; omega
 · simp only [Value.slice.injEq] at e
   obtain ⟨rfl, rfl, rfl⟩ := e
   exact ⟨g, rfl, rfl, hb, hc⟩
theorem OwnC.len (h : OwnC w base (.slice A n c) l) : n = l.length := by
 obtain ⟨A', n', c', e, hn⟩ := h.slice
 simp only [Value.slice.injEq] at e
 omega
theorem OwnC.lt (h : OwnC w base v l) : ∀ k, v.ownBlock = some k -> base <= k /\ k < w.heap.size := World.ownsRow.lt h
theorem OwnC.below (h : OwnC w base v l) (hb : Below w.heap.size w w') : OwnC w' base v l := by
 refine ⟨h.1, ?_⟩
 rcases h.2 with h2 | ⟨g, c, cur, e, h3, hg, r⟩
 · exact .inl h2
 · exact .inr ⟨g, c, cur, e, h3, by rw [hb.block g (Array.getElem?_eq_some_iff.1 hg).1]; exact hg, r⟩
end
def HasPu (w : World) (A : Option Addr) (n : Nat) (l : List Pu) : Prop :=
 n = l.length /\ (∀ x ∈ l, -9223372036854775808 <= x.i /\ x.i <= 9223372036854775807) /\ (0 < n -> ∃ g o, A = some ⟨g, o, none⟩ /\ g < w.heap.size /\ ∀ k x, l[k]? = some x -> ∃ B q c, w.cell? ⟨g, o + k * 2, none⟩ = some (.int .i64 x.i) /\ w.cell? ⟨g, o + k * 2 + 1, none⟩ = some (.slice B q c) /\ HasB w w.heap.size B q x.data /\ q <= c)
theorem HasPu.below {w w' : World} {A : Option Addr} {n : Nat} {l : List Pu} (h : HasPu w A n l) (hb : Below w.heap.size w w') : HasPu w' A n l := by
 refine ⟨h.1, h.2.1, fun hn => ?_⟩
 obtain ⟨g, o, e, hg, hc⟩ := h.2.2 hn
 refine ⟨g, o, e, Nat.lt_of_lt_of_le hg hb.size, fun k x hx => ?_⟩
 obtain ⟨B, q, c, h1, h2, h3, h4⟩ := hc k x hx
 exact ⟨B, q, c, (hb.cell hg).trans h1, (hb.cell hg).trans h2, h3.on hb, h4⟩
theorem load_secH {w : World} {B g o n : Nat} {l : List UInt8} (h : HasB w B (some ⟨g, o, none⟩) n l) (hl : l.length = 512) : (loadVar 185 ⟨g, o, none⟩).run Tryz.prog w = .ok (.agg (cellsB l).toArray) w := by
 obtain ⟨g', o', e, _, hc⟩ := h.2 (by have := h.1; omega)
 simp only [Option.some.injEq, Addr.mk.injEq, and_true] at e
 obtain ⟨rfl, rfl⟩ := e
 have hc' : (loadCells ⟨g, o, none⟩ (cellsB l).length).run Tryz.prog w = .ok (cellsB l).toArray w :=
  run_loadCells_list (P := Tryz.prog) w ⟨g, o, none⟩ (cellsB l) (fun j v hv => by
   obtain ⟨b, hb, rfl⟩ := cellsB_at hv
   rw [Addr.add_lit]
   exact hc j b hb)
 cases hq : Tryz.prog.info? 185 with
 | none => have := infoJsec; rw [hq] at this; cases this
 | some i =>
   have hs : i.size = (cellsB l).length := by have := infoJsec; rw [hq] at this; rw [cellsB_length, hl]; simpa using this
   simp [loadVar, Sem.run_bind, isAgg, run_underlying Tryz.underlying185 w, sizeOf, typeInfo, hq, hs, hc']
theorem yieldsIf_arr {ops : Array Oper} {o : Oper} {a : Act} {S : World -> Prop} (hw : Region.wanted o (yielded ops a.tmps) = true) (arr : TypeId) (x : Operand) (ho : o.op = .sliceToArrayPointer arr x) (X v : Value) (hx : a.eval x = X) (hl : ∀ w, (Instr.arrayAt arr X).run Tryz.prog w = .ok v w) : YieldsIf Tryz.prog ops S o v a := by
 refine Or.inl ⟨hw, fun w hS => ?_⟩
 unfold execOp
 simp only [ho, hx, Sem.run_bind, Sem.run_pure, Result.andThen_ok, hl w]
theorem yieldsIf_bd2 {ops : Array Oper} {o : Oper} {a : Act} {S : World -> Prop} (hw : Region.wanted o (yielded ops a.tmps) = true) (t : TypeId) (i j : Nat) (x y : Operand) (ho : o.op = .build t #[(i, x), (j, y)]) (u v : Value) (hx : a.eval x = u) (hy : a.eval y = v) (cells : Array Value)
 (hf : Tryz.prog.built t [(i, u), (j, v)] = some cells) : YieldsIf Tryz.prog ops S o (.agg cells) a := by
 refine Or.inl ⟨hw, fun w hS => ?_⟩
 unfold execOp
 simp only [ho, Sem.run_bind, List.map_toArray, List.map_cons, List.map_nil, hx, hy, run_build w t _ _ hf, Result.andThen_ok, Sem.run_pure]
theorem cell_only {w w' : World} {S : Nat -> Prop} {g i : Nat} {v : Value} (ho : Only S w w') (hg : ¬ S g) (h : w.cell? ⟨g, i, none⟩ = some v) : w'.cell? ⟨g, i, none⟩ = some v := by
 have hlt := World.block_lt_of_cell? w _ h
 have := ho.block g hlt hg
 unfold World.cell? at h ⊢
 simpa [this] using h
theorem HasB.only' {w w' : World} {B g o n : Nat} {l : List UInt8} {S : Nat -> Prop} (h : HasB w B (some ⟨g, o, none⟩) n l) (ho : Only S w w') (hg : ¬ S g) : HasB w' B (some ⟨g, o, none⟩) n l := by
 refine ⟨h.1, fun hn => ?_⟩
 obtain ⟨g', o', e, hb, hc⟩ := h.2 hn
 simp only [Option.some.injEq, Addr.mk.injEq, and_true] at e
 obtain ⟨rfl, rfl⟩ := e
 exact ⟨g, o, rfl, hb, fun i b hi => cell_only ho hg (hc i b hi)⟩
theorem Only.grownO {w w' : World} {row : Option Nat} (h : w.grownBy w' row) : Only (fun k => row = some k) w w' := ⟨h.os, h.tape, h.output, h.size, fun k hk hn => h.block k hk (fun e => hn e.symm)⟩
theorem step_slice_ch {w : World} {ops : Array Oper} {o : Oper} {a : Act} {K : Act -> World -> Prop} {Q : Exit -> Act -> World -> Prop} {F : Prop} (hw : Region.wanted o (yielded ops a.tmps) = true) (x : Operand) (ho : o.op = .buildSlice 143 1 #[(0, x)]) (c : Ch) (hc : c.data.length = 512) (hx : a.eval x = .agg (chC c).toArray)
 (h : K (a.put o.dst (.slice (some ⟨w.heap.size, 0, none⟩) 1 1)) (w.alloc (.cells (chC c).toArray 196))) : if Region.wanted o (yielded ops a.tmps) = true then Oper.wp Tryz.prog o a w K Q else F := by
 rw [if_pos hw]
 obtain ⟨ie, z, hie, hz, hs, _, hzs⟩ := infoChZ
 refine wp_buildSlice _ _ 1 _ ho (chC c).toArray ie z Tryz.underlying143 hie hz (by rw [hs]; decide) (by rw [hs]; decide) ?_ h
 simp only [List.map_toArray, List.map_cons, List.map_nil, hx]
 obtain ⟨b0, hb0⟩ : ∃ b0 : Array Value, (Array.range (1 * ie.size)).map (z.cells[· % z.cells.size]!) = b0 := ⟨_, rfl⟩
 have hbs : b0.size = 513 := by rw [<- hb0, Array.size_map, Array.size_range, hs]
 rw [hb0]
 have hlc : (chC c).toArray.size = 513 := by rw [@List.size_toArray _ (chC c)]; exact chC_len hc
 rw [fill_step (fun i => some (i * ie.size, ie.size)) b0 0 (.agg (chC c).toArray) [] 0 513 (by show some (0 * ie.size, ie.size) = some (0, 513); rw [hs]) hlc (by omega)]
 have e2 : b0.toList.drop (0 + 513) = [] := List.drop_eq_nil_of_le (by rw [Array.length_toList, hbs]; exact Nat.le_refl _)
 rw [e2, List.append_nil, List.take_zero, List.nil_append, Instr.fill]
 rfl
theorem step_app_ch {w : World} {ops : Array Oper} {o : Oper} {a : Act} {K : Act -> World -> Prop} {Q : Exit -> Act -> World -> Prop} {F : Prop} (hw : Region.wanted o (yielded ops a.tmps) = true) (s x : Operand)
 (ho : o.op = .call { callee := .builtin .append, args := #[s, x], argTypes := #[143, 143] })
 (base : Nat) (v : Value) (l : List Ch) (hev : a.eval s = v) (hown : OwnC w base v l) (g m : Nat) (c : Ch) (hc : c.data.length = 512) (hx : a.eval x = .slice (some ⟨g, 0, none⟩) 1 m) (hg : w.heap[g]? = some (.cells (chC c).toArray 196 (0, 0)))
 (hlen : l.length <= 100000) (hbase : base <= w.heap.size)
 (h : ∀ A' n' c' w', OwnC w' base (.slice A' n' c') (l ++ [c]) -> w.grownBy w' v.ownBlock -> Below base w w' -> K (a.put o.dst (.slice A' n' c')) w') : if Region.wanted o (yielded ops a.tmps) = true then Oper.wp Tryz.prog o a w K Q else F := by
 rw [if_pos hw]
 obtain ⟨ie, z, hie, hz, hs, hby, hzs⟩ := infoChZ
 obtain ⟨v', w', hr, h2, h3, h4, h5⟩ := run_append_own_at (P := Tryz.prog) w base _ o.type _ ie z 513 520 Tryz.underlying143 hie hz hs hby hzs (by decide) v l.length (rowC l) hown ⟨g, 0, none⟩ 1 m (chC c) (by rw [chC_len hc]) (fun j u hu => by
  rw [Addr.add_lit, Nat.zero_add, cell_of_row w g j _ _ (0, 0) hg]
  simpa using hu) (chC_one c) (by simp only [maxLen]; omega) (by omega) hbase
 have hown2 : OwnC w' base v' (l ++ [c]) := by
  unfold OwnC
  rw [rowC_snoc, List.length_append]
  exact h2
 obtain ⟨A', n', c', rfl, _⟩ := hown2.slice
 unfold Oper.wp execOp
 simp only [ho, resolve, invoke, builtin, Sem.run_bind, Sem.run_pure, Result.andThen_ok, List.map_toArray, List.map_cons, List.map_nil, hev, hx, hr]
 exact h A' n' c' w' hown2 h3 ((Below.refl base w).grown h3 hbase fun k hk => (hown.lt k hk).1)
theorem load_intc {W : World} {ad : Addr} {v : Int} (h : W.cell? ad = some (.int .i64 v)) : (loadVar 3 ad).run Tryz.prog W = .ok (.int .i64 v) W := by
 simp [loadVar, isAgg, run_underlying Tryz.underlying3, go_sem, h]
def RetC (w : World) (l : List Ch) (e : Ending) (w' : World) : Prop := ∃ A n c, e = .returned (.slice A n c) /\ OwnC w' w.heap.size (.slice A n c) l /\ Below w.heap.size w w'
theorem chs_snoc (l : List Pu) (k : Nat) (x : Pu) (h : l[k]? = some x) : chs (l.take (k + 1)) = chs (l.take k) ++ [⟨x.i.toNat, x.data⟩] := by
 rw [List.take_add_one, h]
 simp [chs]
theorem chs_len (l : List Pu) (k : Nat) (h : k <= l.length) : (chs (l.take k)).length = k := by simp [chs]; omega
theorem changes_any (A : Option Addr) (nl cl : Nat) (l : List Pu) (w : World) (h : HasPu w A nl l) (hd : ∀ x ∈ l, x.data.length = 512 /\ 0 <= x.i) (hn : nl <= 1000) : Calls Tryz.prog 74 #[.slice A nl cl] w (RetC w (chs l)) := by
 have H := lH h
 have HD := lH hd
 have HL := lH h.1
 clear h hd
 go_enter Tryz.func74, Tryz.ntmps74
 go_wp2_with fail
 go_loopw [3, 8] (fun v i wr => ∃ (A' : Option Addr) (n' c' k : Nat), k <= nl /\ i = .int .i64 (k : Int) /\ v = .slice A' n' c' /\ OwnC wr w.heap.size (.slice A' n' c') (chs (l.take k)) /\ Below w.heap.size w wr) (fun _ i _ => nl - (Go.RowKit.intOf i).toNat)
 case atStart => exact ⟨none, 0, 0, 0, by omega, rfl, rfl, by rw [List.take_zero]; exact OwnC.nil _ _, Below.refl _ _⟩
 case round =>
  obtain ⟨A', n', c', k, hk, rfl, rfl, qo, qb⟩ := hrel
  by_cases hlt' : k < nl
  · obtain ⟨x, hx⟩ : ∃ x, l[k]? = some x := ⟨_, List.getElem?_eq_getElem (by have := HL.out; omega)⟩
    obtain ⟨g, o, rfl, hg, hcl⟩ := H.out.2.2 (by omega)
    obtain ⟨B, q, c, k1', k2', hB, hqc⟩ := hcl k x hx
    have k1 := (qb.cell hg).trans k1'
    have k2 := (qb.cell hg).trans k2'
    clear k1' k2'
    have hxd := HD.out x (List.mem_of_getElem? hx)
    obtain ⟨xi, hxi⟩ : ∃ xi : Nat, x.i = (xi : Int) := ⟨x.i.toNat, by omega⟩
    have hq : q = 512 := by have := hB.1; omega
    obtain ⟨gb, ob, rfl, hgb, _⟩ := hB.2 (by omega)
    have SN := lH (chs_snoc l k x hx)
    have QO := lH qo
    have QB := lH qb
    have HB := lH hB
    have HXD := lH hxd.1
    have CL := lH (chs_len l k (by have := HL.out; omega))
    rw [hxi] at k1
    have HXI := lH hxi
    subst hq
    clear qo qb hB hxd hcl hx hxi
    go_upto_region 5 with fail
    obtain ⟨w5, hw5⟩ : ∃ w5, wr.alloc (.cells #[.int .i64 (xi : Int), .slice (some ⟨gb, ob, none⟩) 512 c] 152) = w5 := ⟨_, rfl⟩
    rw [hw5]
    have b5 : Below wr.heap.size wr w5 := by rw [<- hw5]; exact (Below.refl _ _).alloc (Nat.le_refl _) _
    have h5 : w5.heap[wr.heap.size]? = some (.cells #[.int .i64 (xi : Int), .slice (some ⟨gb, ob, none⟩) 512 c] 152 (0, 0)) := by rw [<- hw5]; exact heap_alloc_new wr _
    have c50 : w5.cell? ⟨wr.heap.size, 0, none⟩ = some (.int .i64 (xi : Int)) := cell_of_row w5 _ 0 _ _ (0, 0) h5
    have c51 : w5.cell? ⟨wr.heap.size, 1, none⟩ = some (.slice (some ⟨gb, ob, none⟩) 512 c) := cell_of_row w5 _ 1 _ _ (0, 0) h5
    have HB5 : Hid (HasB w5 w.heap.size (some ⟨gb, ob, none⟩) 512 x.data) := lH (HB.out.below (QB.out.trans (b5.mono QB.out.size)))
    have AR : Hid (∀ W, (Instr.arrayAt 185 (.slice (some ⟨gb, ob, none⟩) 512 c)).run Tryz.prog W = .ok (.pointer (some ⟨gb, ob, none⟩)) W) := lH (fun W => by
     unfold Instr.arrayAt
     simp [run_underlying Tryz.underlying185])
    have Q5 : Hid (OwnC w5 w.heap.size (.slice A' n' c') (chs (l.take k))) := lH (QO.out.below b5)
    have B5 : Hid (Below w.heap.size w w5) := lH (QB.out.trans (b5.mono QB.out.size))
    have BC : Hid (Tryz.prog.built 196 [(0, .int .i64 (xi : Int)), (1, .agg (cellsB x.data).toArray)] = some (chC ⟨xi, x.data⟩).toArray) := lH (built_ch _ _ HXD.out)
    have hlt5 : wr.heap.size < w5.heap.size := (Array.getElem?_eq_some_iff.1 h5).1
    have H5 := lH h5
    have NB : Hid (¬ ((Value.slice A' n' c').ownBlock = some wr.heap.size)) := lH (fun hh => by have := (QO.out.lt _ hh).2; omega)
    have NG : Hid (¬ ((Value.slice A' n' c').ownBlock = some gb)) := lH (fun hh => by have := (QO.out.lt _ hh).1; omega)
    clear b5 h5 hw5
    go_wp2_with fail
    refine wp_region_held_drew (S := fun W => Only (fun k => (Value.slice A' n' c').ownBlock = some k) w5 W) (by kernel_rfl) ((Only.refl _ _).drew) (fun hHeld => ?_)
    refine tk9 (i := 0) (h := ?_)
    try simp only [aP,aN,aS,aZ,aC]
    refine tk9 (i := 1) (h := ?_)
    try simp only [aP,aN,aS,aZ,aC]
    refine tk9 (i := 2) (hy := (yieldsIf_loadG (by rfl) 3 (.tmp 13) rfl ⟨wr.heap.size, 0, none⟩ rfl _ (fun W hW => load_intc (cell_of_row W _ 0 _ _ (0, 0) ((hW.block _ hlt5 NB.out).trans H5.out))))) (h := ?_)
    try simp only [aP,aN,aS,aZ,aC]
    refine tk9 (i := 3) (h := ?_)
    try simp only [aP,aN,aS,aZ,aC]
    refine tk9 (i := 4) (hy := (yieldsIf_loadG (by rfl) 34 (.tmp 15) rfl ⟨wr.heap.size, 1, none⟩ rfl _ (fun W hW => load_slice (cell_of_row W _ 1 _ _ (0, 0) ((hW.block _ hlt5 NB.out).trans H5.out))))) (h := ?_)
    try simp only [aP,aN,aS,aZ,aC]
    refine tk9 (i := 5) (hy := (yieldsIf_arr (by rfl) 185 (.tmp 16) rfl _ _ rfl AR.out)) (h := ?_)
    try simp only [aP,aN,aS,aZ,aC]
    refine tk9 (i := 6) (hy := (yieldsIf_loadG (by rfl) 185 (.tmp 17) rfl ⟨gb, ob, none⟩ rfl _ (fun W hW => load_secH (HB5.out.only' hW NG.out) HXD.out))) (h := ?_)
    try simp only [aP,aN,aS,aZ,aC]
    refine tk9 (i := 7) (hy := (yieldsIf_bd2 (by rfl) 196 0 1 (.tmp 14) (.tmp 18) rfl _ _ rfl rfl _ BC.out)) (h := ?_)
    try simp only [aP,aN,aS,aZ,aC]
    refine rd9 (i := 8) (h := fun K hK => ?_)
    refine step_slice_ch (by rfl) (.tmp 19) rfl ⟨xi, x.data⟩ HXD.out rfl ?_
    have hb8 : Below w5.heap.size w5 (w5.drew.alloc (.cells (chC ⟨xi, x.data⟩).toArray 196)) := (Below.refl w5.heap.size w5).drew.alloc (Nat.le_refl _) _
    have hS8 : Only (fun k => (Value.slice A' n' c').ownBlock = some k) w5 (w5.drew.alloc (.cells (chC ⟨xi, x.data⟩).toArray 196)) := Only.of_below hb8 (Nat.le_refl _)
    refine hK _ _ hS8 (fun hH8 => ?_)
    clear hK K
    try simp only [aP,aN,aS,aZ,aC]
    refine rd9 (i := 9) (h := fun K hK => ?_)
    refine step_app_ch (by rfl) (.tmp 12) (.tmp 20) rfl w.heap.size _ (chs (l.take k)) rfl (Q5.out.below hb8) w5.drew.heap.size 1 ⟨xi, x.data⟩ HXD.out rfl (heap_alloc_new _ _) (by rw [CL.out]; omega) (Nat.le_trans B5.out.size hb8.size) ?_
    intro A7 n7 c7 w7 own7 gr7 b7
    have B7 := lH ((B5.out.trans (hb8.mono B5.out.size)).trans b7)
    have hS9 : Only (fun k => (Value.slice A' n' c').ownBlock = some k) w5 w7 := hS8.trans (Only.grownO gr7)
    refine hK _ _ hS9 (fun hH9 => ?_)
    clear hK K
    try simp only [aP,aN,aS,aZ,aC]
    have Q7 := lH own7
    clear own7 b7 gr7
    refine tk9 (i := 10) (h := ?_)
    try simp only [aP,aN,aS,aZ,aC]
    refine wpAnyH_done (by kernel_rfl) ?_ _
    try simp only [aP,aN,aS,aZ,aC]
    go_wp2_with fail
    go_roundw
    case rel =>
     refine ⟨A7, n7, c7, k + 1, by omega, by go_num, rfl, ?_, B7.out⟩
     rw [SN.out, HXI.out]
     exact Q7.out
    case measure => simp [Go.RowKit.intOf]; omega
  · obtain rfl : k = nl := by omega
    have hf : l.take k = l := by rw [HL.out]; exact List.take_length
    rw [hf] at qo
    have QO := lH qo
    have QB := lH qb
    clear qo qb hf
    go_wp2_with fail
    go_ret
    exact ⟨_, _, _, rfl, QO.out, QB.out⟩
end Go.Proofs.YthoebjekkfhhgaaGreat
