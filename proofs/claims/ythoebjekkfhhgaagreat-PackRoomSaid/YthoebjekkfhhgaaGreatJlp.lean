/-
  Own work.
-/
import Derived.Test.YthoebjekkfhhgaaGreatCp9
import Derived.Test.YthoebjekkfhhgaaGreatJ5
import Derived.Test.YthoebjekkfhhgaaGreatJl
set_option linter.unusedVariables false
set_option linter.unusedSimpArgs false
set_option maxRecDepth 100000
set_option maxHeartbeats 8000000
namespace Go.Proofs.YthoebjekkfhhgaaGreat
open Go.RowKit Go.Maps
def hmz (l : List Ch) : List Int := (l.map fun c => (c.home : Int)).reverse
theorem hmz_snoc (l : List Ch) (c : Ch) : hmz (l ++ [c]) = (c.home : Int) :: hmz l := by simp [hmz]
theorem hmz_mem (l : List Ch) (h : Nat) : (h : Int) ∈ hmz l ↔ h ∈ l.map Ch.home := by
 unfold hmz
 rw [List.mem_reverse, List.mem_map, List.mem_map]
 constructor
 · rintro ⟨c, hc, e⟩; exact ⟨c, hc, by omega⟩
 · rintro ⟨c, hc, e⟩; exact ⟨c, hc, by omega⟩
theorem OwnC.only {w w' : World} {base : Nat} {v : Value} {l : List Ch} {S : Nat -> Prop} (h : OwnC w base v l) (ho : Only S w w') (hS : ∀ k, v.ownBlock = some k -> ¬ S k) : OwnC w' base v l := by
 refine ⟨h.1, ?_⟩
 rcases h.2 with h2 | ⟨g, c, cur, e, h3, hg, r⟩
 · exact .inl h2
 · exact .inr ⟨g, c, cur, e, h3, by rw [ho.block g (Array.getElem?_eq_some_iff.1 hg).1 (hS g (by rw [e]; rfl))]; exact hg, r⟩
theorem wp_app_chG {w : World} {ops : Array Oper} {rest : List Oper} {o : Oper} {a : Act} {Q : Exit -> Act -> World -> Prop} (hgd : o.guard = none) (s x : Operand)
 (ho : o.op = .call { callee := .builtin .append, args := #[s, x], argTypes := #[143, 143] })
 (base : Nat) (v : Value) (l : List Ch) (hev : a.eval s = v) (hown : OwnC w base v l) (g m : Nat) (c : Ch) (hc : c.data.length = 512) (hx : a.eval x = .slice (some ⟨g, 0, none⟩) 1 m) (hg : w.heap[g]? = some (.cells (chC c).toArray 196 (0, 0)))
 (hlen : l.length <= 100000) (hbase : base <= w.heap.size)
 (h : ∀ A' n' c' w', OwnC w' base (.slice A' n' c') (l ++ [c]) -> w.grownBy w' v.ownBlock -> ((Value.slice A' n' c').ownBlock = v.ownBlock \/ (Value.slice A' n' c').ownBlock = some w.heap.size) -> wpList Tryz.prog ops Q rest (a.put o.dst (.slice A' n' c')) w') : wpList Tryz.prog ops Q (o :: rest) a w := by
 refine BigFrame.wpList_want (by simp [Region.wanted, hgd]) fun K hK => ?_
 obtain ⟨ie, z, hie, hz, hs, hby, hzs⟩ := infoChZ
 obtain ⟨v', w', hr, h2, h3, h4, h5⟩ := run_append_own_at (P := Tryz.prog) w base _ o.type _ ie z 513 520 Tryz.underlying143 hie hz hs hby hzs (by decide) v l.length (rowC l) hown ⟨g, 0, none⟩ 1 m (chC c) (by rw [chC_len hc]) (fun j u hu => by
  rw [Addr.add_lit, Nat.zero_add, cell_of_row w g j _ _ (0, 0) hg]
  simpa using hu) (chC_one c) (by simp only [maxLen]; omega) (by omega) hbase
 have hown2 : OwnC w' base v' (l ++ [c]) := by
  unfold OwnC
  rw [rowC_snoc, List.length_append]
  exact h2
 obtain ⟨A', n', c', rfl, _⟩ := hown2.slice
 unfold Oper.wp execOp
 simp only [ho, resolve, invoke, builtin, Sem.run_bind, Sem.run_pure, Result.andThen_ok, List.map_toArray, List.map_cons, List.map_nil, hev, hx, hr]
 exact hK _ _ (h A' n' c' w' hown2 h3 h5)
theorem wp_bd2 {P : Program} {w : World} {ops : Array Oper} {rest : List Oper} {o : Oper} {a : Act} {Q : Exit -> Act -> World -> Prop} (hgd : o.guard = none) (t : TypeId) (i j : Nat) (x y : Operand) (ho : o.op = .build t #[(i, x), (j, y)]) (u v : Value) (hx : a.eval x = u) (hy : a.eval y = v) (cells : Array Value)
 (hf : P.built t [(i, u), (j, v)] = some cells) (h : wpList P ops Q rest (a.put o.dst (.agg cells)) w) : wpList P ops Q (o :: rest) a w := by
 refine BigFrame.wpList_want (by simp [Region.wanted, hgd]) fun K hK => ?_
 unfold Oper.wp execOp
 simp only [ho, Sem.run_bind, List.map_toArray, List.map_cons, List.map_nil, hx, hy, run_build w t _ _ hf, Result.andThen_ok, Sem.run_pure]
 exact hK _ _ h
section
variable {Z : DK} {w w' W W' : World} {g gd gp n : Nat} {S T : Nat -> Prop} {e : Int} {j : JM} {m : RM} {p : Pt}
theorem jload_some (h : JO w g gd gp n p.e j) (d : Z.D w gd S n p.m) (ok : p.m.Ok n) (he : p.e = 0) (live : p.m.readE n 0 = 0) (a : Apart w g gp S) (hgood : ¬ (tagOf (lst (p.m.readS n (j.k.inRing 0 : Nat))) ≠ 2 * j.k.turn + 1 \/ 40 < num (sub (lst (p.m.readS n (j.k.inRing 0 : Nat))) 8 2) \/ j.k.ring <= num (sub (lst (p.m.readS n (j.k.inRing 0 : Nat))) 8 2))) :
 Calls Tryz.prog 109 #[.pointer (some ⟨g, 0, none⟩)] w (RetLd Z w g gd gp n S (ldL p.m n j.k (j.homes n)) p j) := by
 obtain ⟨L, hL⟩ : ∃ L, ldL p.m n j.k (j.homes n) = L := ⟨_, rfl⟩
 rw [hL]
 unfold ldL at hL
 simp only [] at hL
 rw [if_neg hgood] at hL
 have n2 := ok.n2
 have fit := h.ok.fit
 have r1 := h.ok.r1
 have r2 := h.ok.r2
 have r3 := h.ok.r3
 have ps := h.ok.ps
 obtain ⟨x, hx⟩ : ∃ x, j.k.inRing 0 = x := ⟨_, rfl⟩
 rw [hx] at hgood hL
 have hxn : x < n := by rw [<- hx]; have hlt := Nat.mod_lt (j.k.pos + 0) (show 0 < j.k.ring by omega); unfold Mk.inRing; try unfold Mk.ahead; omega
 have CI : Hid (∀ W, Calls Tryz.prog 115 #[.agg (mkC j.k), .int .i64 0] W (RetV2 W (.int .i64 (x : Int)))) := lH (fun W => by have := inRing_any j.k 0 W fit (by omega) (by omega); rwa [hx, show ((0 : Nat) : Int) = 0 from rfl] at this)
 have hrx : p.m.readE n (x : Int) = 0 := RM.readE_all live (by omega) (by omega)
 obtain ⟨s, hs⟩ : ∃ s, lst (p.m.readS n (x : Int)) = s := ⟨_, rfl⟩
 rw [hs] at hgood hL
 have hsl : s.length = 512 := by rw [<- hs, <- Pt.rdS_ok hrx he]; exact p.rdS_len ok _
 have CR : Hid (∀ W0 W, Apart W0 g gp S -> LeftJ Z W0 g gd gp n S p j W -> Calls Tryz.prog 139 #[.pointer (some ⟨g, 0, none⟩), .int .i64 (x : Int)] W (fun en W' => en = .returned (.agg (cellsB s).toArray) /\ LeftJ Z W0 g gd gp n S p j W')) := lH (fun W0 W hA hL => by
  have := jrd_on hA hL ok (x : Int) (by omega)
  rwa [Pt.rdS_ok hrx he, hs, Pt.rd_ok hrx he] at this)
 have CRG : Hid (∀ gm s0 W, LeftK Z w g gd gp n S p j gm s0 W -> Calls Tryz.prog 139 #[.pointer (some ⟨g, 0, none⟩), .int .i64 (x : Int)] W (fun en W' => en = .returned (.agg (cellsB s).toArray) /\ LeftK Z w g gd gp n S p j gm s0 W')) := lH (fun gm s0 W hL => by
  obtain ⟨S2, d2, hs2, o2, y2, h1, h2, h3⟩ := hL
  have hg2 : ¬ S2 g := fun hh => (hs2 g hh).elim a.s1 (by have := a.l1; omega)
  have hp2 : ¬ S2 gp := fun hh => (hs2 gp hh).elim a.s2 (by have := a.l2; omega)
  have := jrd_on (S := S2) (w := W) ⟨hg2, hp2, o2.lt, o2.ltp, a.ne⟩ (LeftJ.same d2 o2) ok (x : Int) (by omega)
  rw [Pt.rdS_ok hrx he, hs, Pt.rd_ok hrx he] at this
  refine this.mono ?_
  rintro en W' ⟨rfl, l⟩
  obtain ⟨⟨S3, d3, hs3⟩, o3, y3⟩ := l
  have hgl := a.l1
  have hpl := a.l2
  have hbl := h2.lt
  refine ⟨rfl, S3, d3, fun k hk => ?_, o3, y2.trans' y3 (fun k hk hh => ?_), fun hh => ?_, h2.keepO y3 (fun hh => ?_), h3⟩
  · rcases hs3 k hk with q | q
    · exact hs2 k q
    · exact .inr (Nat.le_trans y2.size q)
  · rcases hh with q | q
    · rcases hs2 k q with q2 | q2
      · exact .inl q2
      · omega
    · exact .inr q
  · rcases hs3 _ hh with q | q
    · exact h1 q
    · omega
  · rcases hh with q | q | q
    · exact h1 q
    · omega
    · omega)
 have L0 : Hid (LeftJ Z w g gd gp n S p j w) := lH (LeftJ.same d h)
 have AP := lH a
 have HLT : Hid (∀ k, S k -> k < w.heap.size) := lH (fun k hk => Z.lt d k hk)
 have GLT := lH h.lt
 have GPT := lH h.ltp
 have SN := lH hsl
 obtain ⟨c, hc⟩ : ∃ c, num (sub s 8 2) = c := ⟨_, rfl⟩
 have hc2 : c < 65536 := by rw [<- hc]; have := num_lt (sub s 8 2); rw [sub_len (by omega)] at this; omega
 obtain ⟨tg, htg⟩ : ∃ c, tagOf s = c := ⟨_, rfl⟩
 have htn := h.ok.tn
 have CN : Hid (∀ gm W, Bw W gm 185 s -> Calls Tryz.prog 140 #[.pointer (some ⟨gm, 0, none⟩), .int .i64 8, .int .i64 2] W (RetW W (.int .u64 (c : Int)))) := lH (fun gm W hW => by have := snum_any 8 2 hW hsl (by omega) (by omega) (by omega); rwa [hc] at this)
 have CT : Hid (∀ gm W, Bw W gm 185 s -> Calls Tryz.prog 141 #[.pointer (some ⟨gm, 0, none⟩)] W (RetW W (.int .u64 (tg : Int)))) := lH (fun gm W hW => by have := stag_any hW hsl; rwa [htg] at this)
 obtain ⟨ht, hht⟩ : ∃ x, 2 * j.k.turn + 1 = x := ⟨_, rfl⟩
 have CHT : Hid (∀ W, Calls Tryz.prog 142 #[.int .u64 (j.k.turn : Int)] W (RetW W (.int .u64 (ht : Int)))) := lH (fun W => by have := hdrTag_any j.k.turn W htn; rwa [hht] at this)
 rw [hc, htg, hht] at hgood
 rw [hc] at hL
 have er : IntKind.i64.wrap (j.k.ring : Int) = (j.k.ring : Int) := by rw [IntKind.wrap_i64]; omega
 have ec : IntKind.i64.wrap (c : Int) = (c : Int) := by rw [IntKind.wrap_i64]; omega
 have g1 : tg = ht := by omega
 have g2 : c <= 40 := by omega
 have g3 : c < j.k.ring := by omega
 clear hgood hc htg hht
 obtain ⟨hh, hhh⟩ : ∃ hh, j.homes n = hh := ⟨_, rfl⟩
 have hh2 : hh <= 4096 := by rw [<- hhh]; show n - 2 - j.k.ring <= 4096; omega
 obtain ⟨tt, htt⟩ : ∃ tt, 2 * j.k.turn = tt := ⟨_, rfl⟩
 have CRT : Hid (∀ W, Calls Tryz.prog 144 #[.int .u64 (j.k.turn : Int)] W (RetW W (.int .u64 (tt : Int)))) := lH (fun W => by have := ringTag_any j.k.turn W htn; rwa [htt] at this)
 obtain ⟨xk, hxk⟩ : ∃ xk : Nat -> Nat, ∀ k, j.k.inRing (1 + k) = xk k := ⟨fun k => _, fun _ => rfl⟩
 have hxkn : ∀ k, xk k < n := fun k => by rw [<- hxk k]; have hlt := Nat.mod_lt (j.k.pos + (1 + k)) (show 0 < j.k.ring by omega); unfold Mk.inRing; try unfold Mk.ahead; omega
 obtain ⟨dk, hdk⟩ : ∃ dk : Nat -> List UInt8, ∀ k, lst (p.m.readS n (xk k : Int)) = dk k := ⟨fun k => _, fun _ => rfl⟩
 have hrk : ∀ k, p.m.readE n (xk k : Int) = 0 := fun k => RM.readE_all live (by omega) (by have := hxkn k; omega)
 have hdl : ∀ k, (dk k).length = 512 := fun k => by rw [<- hdk k, <- Pt.rdS_ok (hrk k) he]; exact p.rdS_len ok _
 have DL := lH hdl
 have CIk : Hid (∀ (k : Nat) W, k < 40 -> Calls Tryz.prog 115 #[.agg (mkC j.k), .int .i64 (1 + (k : Int))] W (RetV2 W (.int .i64 (xk k : Int)))) := lH (fun (k : Nat) W hk => by
  have := inRing_any j.k (1 + k) W fit (by omega) (by omega)
  rw [show ((1 + k : Nat) : Int) = 1 + (k : Int) by omega, hxk k] at this
  exact this)
 have CRN : Hid (∀ k B W0 W, LeftN Z w g gd gp n S p j B W0 W -> Calls Tryz.prog 139 #[.pointer (some ⟨g, 0, none⟩), .int .i64 (xk k : Int)] W (fun en W' => en = .returned (.agg (cellsB (dk k)).toArray) /\ LeftN Z w g gd gp n S p j B W0 W')) := lH (fun k B W0 W hL => by
  have := LeftN.read a hL ok (xk k : Int) (by have := hxkn k; omega)
  rwa [Pt.rdS_ok (hrk k) he, hdk, Pt.rd_ok (hrk k) he] at this)
 have CRM : Hid (∀ k B W0 b s W, LeftM Z w g gd gp n S p j B W0 b s W -> Calls Tryz.prog 139 #[.pointer (some ⟨g, 0, none⟩), .int .i64 (xk k : Int)] W (fun en W' => en = .returned (.agg (cellsB (dk k)).toArray) /\ LeftM Z w g gd gp n S p j B W0 b s W')) := lH (fun k B W0 b s W hL => by
  have := LeftM.read a hL ok (xk k : Int) (by have := hxkn k; omega)
  rwa [Pt.rdS_ok (hrk k) he, hdk, Pt.rd_ok (hrk k) he] at this)
 have CHm : Hid (∀ (i : Int) B W, LeftB Z w g gd gp n S p j B W -> -9223372036854775808 <= i /\ i <= 9223372036854775807 -> Calls Tryz.prog 112 #[.pointer (some ⟨g, 0, none⟩), .int .i64 i] W (RetV2 W (.bool (decide (0 <= i /\ i < (hh : Int)))))) := lH (fun i B W hL hi => by have := LeftB.home hL ok i hi; rwa [hhh] at this)
 obtain ⟨rw', hrw⟩ : ∃ f : Nat -> Nat, ∀ k, num (sub s (16 + 12 * k) 4) = f k := ⟨fun k => _, fun _ => rfl⟩
 obtain ⟨fr, hfr⟩ : ∃ f : Nat -> List UInt8, ∀ k, sub s (16 + 12 * k + 4) 8 = f k := ⟨fun k => _, fun _ => rfl⟩
 obtain ⟨ek, hek⟩ : ∃ f : Nat -> Nat, ∀ k, num (sub (dk k) 0 8) = f k := ⟨fun k => _, fun _ => rfl⟩
 have hrw2 : ∀ k, k < 40 -> rw' k < 4294967296 := fun k hk => by rw [<- hrw k]; have := num_lt (sub s (16 + 12 * k) 4); rw [sub_len (by omega)] at this; omega
 have hfr2 : ∀ k, k < 40 -> (fr k).length = 8 := fun k hk => by rw [<- hfr k]; exact sub_len (by omega)
 have RW2 := lH hrw2
 have FR2 := lH hfr2
 have CRow : Hid (∀ gm (k : Nat) W, Bw W gm 185 s -> k < 40 -> Calls Tryz.prog 143 #[.pointer (some ⟨gm, 0, none⟩), .int .i64 (k : Int)] W (RetV2 W (.tuple #[.int .i64 (rw' k : Int), .agg (cellsB (fr k)).toArray]))) := lH (fun gm k W hW hk => by have := row_any k hW hsl hk; rwa [hrw, hfr] at this)
 have CNk : Hid (∀ k b W, Bw W b 185 (dk k) -> Calls Tryz.prog 140 #[.pointer (some ⟨b, 0, none⟩), .int .i64 0, .int .i64 8] W (RetW W (.int .u64 (ek k : Int)))) := lH (fun k b W hW => by have := snum_any 0 8 hW (hdl k) (by omega) (by omega) (by omega); rwa [hek] at this)
 obtain ⟨LK, hLK⟩ : ∃ f : Nat -> Option (List Ch), ∀ k, ldK p.m n j.k (j.homes n) s k = f k := ⟨fun k => _, fun _ => rfl⟩
 rw [hLK] at hL
 have LK0 : Hid (LK 0 = some []) := lH (by rw [<- hLK]; rfl)
 have hstep : ∀ q, LK (q + 1) = (LK q).bind (fun l => if rw' q ∈ l.map Ch.home \/ hh <= rw' q \/ ek q ≠ tt then none else some (l ++ [⟨rw' q, over (dk q) 0 (fr q)⟩])) := fun q => by
  rw [<- hLK, ldK, hLK]
  cases LK q with
  | none => rfl
  | some l => simp only [hxk, hdk, hrw, hfr, hek, hhh, htt, Option.bind_some]
 have LKS := lH hstep
 have hnone : ∀ r q, LK q = none -> LK (q + r) = none := fun r q hq => by
  induction r with
  | zero => exact hq
  | succ r ih => rw [<- Nat.add_assoc, hstep, ih]; rfl
 have FIN0 : Hid (∀ k, k < c -> LK (k + 1) = none -> L = []) := lH (fun k hk hq => by
  have := hnone (c - (k + 1)) (k + 1) hq
  rw [show k + 1 + (c - (k + 1)) = c by omega] at this
  rw [<- hL, this]; rfl)
 have FIN1 : Hid (∀ l, LK c = some l -> L = l) := lH (fun l hq => by rw [<- hL, hq]; rfl)
 clear hL hLK hstep hnone hrw hfr hek hrw2 hfr2 hxk hdk hrk hdl hhh htt htn hxkn
 clear h d ok he live a hx hrx hs hsl
 go_enter Tryz.func109, Tryz.ntmps109
 go_upto_region 1 with fail
 go_cut [3] (fun s3 wx => ∃ gm, s3 = .pointer (some ⟨gm, 0, none⟩) /\ LeftK Z w g gd gp n S p j gm s wx)
 case first =>
  have LB : Hid (LeftJ Z w g gd gp n S p j w.drew) := lH L0.out.drew
  go_wp2_with fail
  refine wp_region_held_drew (S := fun W => ∃ e, JO W g gd gp n e j) (by kernel_rfl) ⟨_, LB.out.o⟩ (fun hHeld => ?_)
  refine tk9 (i := 0) (h := ?_)
  try simp only [aP,aN,aS,aZ,aC]
  refine tk9 (i := 1) (h := ?_)
  try simp only [aP,aN,aS,aZ,aC]
  refine tk9 (i := 2) (h := ?_)
  try simp only [aP,aN,aS,aZ,aC]
  refine tk9 (i := 3) (h := ?_)
  try simp only [aP,aN,aS,aZ,aC]
  refine tk9 (i := 4) (h := ?_)
  try simp only [aP,aN,aS,aZ,aC]
  refine tk9 (i := 5) (h := ?_)
  try simp only [aP,aN,aS,aZ,aC]
  refine tk9 (i := 6) (hy := (yieldsIf_loadG (by rfl) 137 (.tmp 18) rfl ⟨g, 2, none⟩ rfl _ (fun W hW => hW.choose_spec.mark))) (h := ?_)
  try simp only [aP,aN,aS,aZ,aC]
  refine wpAnyH_ready (rs := [7, 9]) (by kernel_rfl) (by simp) ?_
  refine rc9 (h := fun K hK => ?_) (hs := (rc9 (h := fun K hK => ?_) (hs := AllReadyH.nil)))
  · go_simp
    refine (CI.out _).mono ?_
    rintro en w6 ⟨rfl, b6⟩
    have L1 := lH (LB.out.belowR b6)
    clear b6
    refine hK _ _ ⟨_, L1.out.o⟩ (fun hH7 => ?_)
    clear hK K
    try simp only [aP,aN,aS,aZ,aC]
    refine wpAnyH_ready (rs := [8, 9]) (by kernel_rfl) (by simp) ?_
    refine rc9 (h := fun K hK => ?_) (hs := (rc9 (h := fun K hK => ?_) (hs := AllReadyH.nil)))
    · go_simp
      refine (CR.out _ _ AP.out L1.out).mono ?_
      rintro en w8 ⟨rfl, l8⟩
      have L2 := lH l8
      clear l8
      refine hK _ _ ⟨_, L2.out.o⟩ (fun hH8 => ?_)
      clear hK K
      try simp only [aP,aN,aS,aZ,aC]
      refine rd9 (i := 9) (h := fun K hK => ?_)
      go_simp
      rw [zc97]
      have LG := lH (L2.out.gm zsec)
      refine hK _ _ ⟨_, LG.out.left.o⟩ (fun hH9 => ?_)
      clear hK K
      try simp only [aP,aN,aS,aZ,aC]
      refine rd9 (i := 10) (h := fun K hK => ?_)
      refine step_store_sec rfl (.tmp 3) (.tmp 21) rfl (w8.heap.size) s rfl rfl _ zsec LG.out.bw zsec_len SN.out ?_
      intro w9 h9 o9
      have lg9 := LG.out.row GLT.out GPT.out h9 o9
      have LG9 := lH lg9
      refine hK _ _ ⟨_, lg9.left.o⟩ (fun hH10 => ?_)
      clear hK K lg9 h9 o9
      try simp only [aP,aN,aS,aZ,aC]
      refine wpAnyH_done (by kernel_rfl) ?_ _
      go_wp2_with fail
      go_meet
      exact ⟨w8.heap.size, rfl, LG9.out⟩
    · go_simp
      rw [zc97]
      have LH := lH (L1.out.gm zsec)
      refine hK _ _ ⟨_, LH.out.left.o⟩ (fun hH9 => ?_)
      clear hK K
      try simp only [aP,aN,aS,aZ,aC]
      refine rd9 (i := 8) (h := fun K hK => ?_)
      go_simp
      refine (CRG.out _ _ _ LH.out).mono ?_
      rintro en w8 ⟨rfl, l8⟩
      have LG := lH l8
      clear l8
      refine hK _ _ ⟨_, LG.out.left.o⟩ (fun hH8 => ?_)
      clear hK K
      try simp only [aP,aN,aS,aZ,aC]
      refine rd9 (i := 10) (h := fun K hK => ?_)
      refine step_store_sec rfl (.tmp 3) (.tmp 21) rfl (w6.heap.size) s rfl rfl _ zsec LG.out.bw zsec_len SN.out ?_
      intro w9 h9 o9
      have lg9 := LG.out.row GLT.out GPT.out h9 o9
      have LG9 := lH lg9
      refine hK _ _ ⟨_, lg9.left.o⟩ (fun hH10 => ?_)
      clear hK K lg9 h9 o9
      try simp only [aP,aN,aS,aZ,aC]
      refine wpAnyH_done (by kernel_rfl) ?_ _
      go_wp2_with fail
      go_meet
      exact ⟨w6.heap.size, rfl, LG9.out⟩
  · go_simp
    rw [zc97]
    have LH := lH (LB.out.gm zsec)
    refine hK _ _ ⟨_, LH.out.left.o⟩ (fun hH9 => ?_)
    clear hK K
    try simp only [aP,aN,aS,aZ,aC]
    refine rd9 (i := 7) (h := fun K hK => ?_)
    go_simp
    refine (CI.out _).mono ?_
    rintro en w6 ⟨rfl, b6⟩
    have LI := lH (LH.out.below b6)
    clear b6
    refine hK _ _ ⟨_, LI.out.left.o⟩ (fun hH7 => ?_)
    clear hK K
    try simp only [aP,aN,aS,aZ,aC]
    refine rd9 (i := 8) (h := fun K hK => ?_)
    go_simp
    refine (CRG.out _ _ _ LI.out).mono ?_
    rintro en w8 ⟨rfl, l8⟩
    have LG := lH l8
    clear l8
    refine hK _ _ ⟨_, LG.out.left.o⟩ (fun hH8 => ?_)
    clear hK K
    try simp only [aP,aN,aS,aZ,aC]
    refine rd9 (i := 10) (h := fun K hK => ?_)
    refine step_store_sec rfl (.tmp 3) (.tmp 21) rfl (w.heap.size) s rfl rfl _ zsec LG.out.bw zsec_len SN.out ?_
    intro w9 h9 o9
    have lg9 := LG.out.row GLT.out GPT.out h9 o9
    have LG9 := lH lg9
    refine hK _ _ ⟨_, lg9.left.o⟩ (fun hH10 => ?_)
    clear hK K lg9 h9 o9
    try simp only [aP,aN,aS,aZ,aC]
    refine wpAnyH_done (by kernel_rfl) ?_ _
    go_wp2_with fail
    go_meet
    exact ⟨w.heap.size, rfl, LG9.out⟩
 case rest =>
  obtain ⟨gm, rfl, lk⟩ := hcut
  have LK' := lH lk
  have c3 := lk.left.o.c3
  have c5 := lk.left.o.c5
  clear lk
  go_upto_region 3 with (go_at_call 140; refine (CN.out gm _ LK'.out.bw).mono ?_; rintro en w1 ⟨rfl, rfl⟩)
  have CTq : Hid (∀ k, Calls Tryz.prog 141 #[.pointer (some ⟨gm, 0, none⟩)] (wc.drewN k) fun e w' => e = .returned (.int .u64 (tg : Int)) /\ w' = wc.drewN k) := lH (fun k => RetW.still (CT.out gm (wc.drewN k) LK'.out.bw))
  have CHq : Hid (∀ k, Calls Tryz.prog 142 #[.int .u64 (j.k.turn : Int)] (wc.drewN k) fun e w' => e = .returned (.int .u64 (ht : Int)) /\ w' = wc.drewN k) := lH (fun k => RetW.still (CHT.out (wc.drewN k)))
  have hd1 : ((tg : Int) != (ht : Int)) = false := by rw [g1]; exact bne_self_eq_false _
  have hd2 : ¬ (40 : Int) < (c : Int) := by omega
  have hd3 : decide ((40 : Int) < (c : Int)) = false := decide_eq_false hd2
  have hd4 : ¬ (j.k.ring : Int) <= (c : Int) := by omega
  have hd5 : decide ((j.k.ring : Int) <= (c : Int)) = false := decide_eq_false hd4
  go_wp2_with fail
  go_quiet ((first
   | (go_at_call 141; refine Calls.quiet_of_same (CTq.out _))
   | (go_at_call 142; refine Calls.quiet_of_same (CHq.out _))))
  have LW : Hid (LeftK Z w g gd gp n S p j gm s (wc.drewN nq)) := lH (LK'.out.below ⟨rfl, rfl, rfl, Nat.le_refl _, fun _ _ => rfl⟩)
  generalize wc.drewN nq = W1 at *
  have hmm : ∀ W : World, (Instr.makeMap 192 none).run Tryz.prog W = .ok (.map (some W.heap.size)) (W.alloc (.map #[] 0)) := fun W => by simp [Instr.makeMap, go_sem, Result.andThen]
  have hd6 : ¬ j.k.ring <= c := by omega
  have hd7 : decide (j.k.ring <= c) = false := decide_eq_false hd6
  clear CTq CHq c3 c5 g1 g3
  go_upto_region 7 with fail
  clear hd1 hd2 hd3 hd4 hd5 hd6 hd7
  have hgmlt : gm < W1.heap.size := LW.out.bw.lt
  obtain ⟨mp, hmp⟩ : ∃ mp, W1.heap.size = mp := ⟨_, rfl⟩
  obtain ⟨W2, hW2⟩ : ∃ W2, W1.alloc (.map #[] 0) = W2 := ⟨_, rfl⟩
  rw [hW2]
  have hsz2 : W2.heap.size = mp + 1 := by rw [<- hW2, <- hmp]; simp
  have bb : Below W1.heap.size W1 W2 := by rw [<- hW2]; exact (Below.refl _ _).alloc (Nat.le_refl _) _
  have M0 : Hid (W2.ownsMap Tryz.prog 3 unitElem mp 0 (.map [])) := lH (by rw [<- hW2, <- hmp]; exact ownsMap_newU W1)
  have H0 : Hid (Bw W2 gm 185 s) := lH (LW.out.bw.below bb hgmlt)
  have B0' : Hid (LeftB Z w g gd gp n S p j (fun b => (b = gm \/ b = mp) \/ (Value.slice none 0 0).ownBlock = some b) W2) := lH (LW.out.leftB.own GLT.out GPT.out (Only.of_below bb (Nat.le_refl _)) (fun k hk => by
   rcases hk with (h1 | h1) | h1
   · exact .inl h1
   · exact .inr ⟨by omega, by omega⟩
   · cases h1))
  rw [hmp] at hgmlt
  rw [hmp]
  clear hW2 bb hmp
  have hsz2 := Nat.le_of_eq hsz2.symm
  go_wp2_with fail
  go_loopw [5, 48] (fun v i wr => ∃ (k : Nat) (A' : Option Addr) (n' c' : Nat) (l : List Ch) (D : DU), k <= c /\ i = .int .i64 (k : Int) /\ v = .slice A' n' c' /\ LK k = some l /\ l.length = k /\ OwnC wr (mp + 1) (.slice A' n' c') l /\ wr.ownsMap Tryz.prog 3 unitElem mp k D /\ SetI D (hmz l) /\ Bw wr gm 185 s /\ LeftB Z w g gd gp n S p j (fun b => (b = gm \/ b = mp) \/ (Value.slice A' n' c').ownBlock = some b) wr /\ mp + 1 <= wr.heap.size) (fun _ i _ => c - (Go.RowKit.intOf i).toNat)
  case atStart => exact ⟨0, none, 0, 0, [], .map [], by omega, rfl, rfl, LK0.out, rfl, OwnC.nil _ _, M0.out, SetI.nil, H0.out, B0'.out, hsz2⟩
  case round =>
   obtain ⟨k, A', n', c', l, D, hk, rfl, rfl, qk, ql, qo, qm, qs, qh, qb, qz⟩ := hrel
   by_cases hlt' : k < c
   · have QK := lH qk
     have QL := lH ql
     have QO := lH qo
     have QM := lH qm
     have QS := lH qs
     have QH := lH qh
     have QB := lH qb
     have QZ := lH qz
     have hk40 : k < 40 := by omega
     have hrk2 := RW2.out k hk40
     clear qk ql qo qm qs qh qb qz M0 H0 B0' hsz2
     go_upto_region 11 with (first
      | (go_at_call 143; refine (CRow.out gm k _ QH.out hk40).mono ?_; rintro en w1 ⟨rfl, b1⟩
         have B1 := lH b1
         have Z8 : Hid (Bw (w1.alloc (.cells #[.int .u8 0, .int .u8 0, .int .u8 0, .int .u8 0, .int .u8 0, .int .u8 0, .int .u8 0, .int .u8 0] 173)) w1.heap.size 173 (zer 8)) := lH (Bw.new w1 (zer 8) 173)
         clear b1)
      | (refine wpList_store_row rfl 173 (.tmp 9) (.tmp 55) rfl w1.heap.size (cellsB (fr k)).toArray rfl rfl _ _ Z8.out (by rw [cellsB_size, FR2.out k hk40]; kernel_rfl) (by rw [cellsB_size, cellsB_size, FR2.out k hk40]; rfl) (cellsB_ones (fr k)) ?_))
     have K9 : Bw ((w1.alloc (.cells #[.int .u8 0, .int .u8 0, .int .u8 0, .int .u8 0, .int .u8 0, .int .u8 0, .int .u8 0, .int .u8 0] 173)).setRow w1.heap.size (cellsB (fr k)).toArray) w1.heap.size 173 (fr k) := Z8.out.row
     have b12 : Below wr.heap.size wr ((w1.alloc (.cells #[.int .u8 0, .int .u8 0, .int .u8 0, .int .u8 0, .int .u8 0, .int .u8 0, .int .u8 0, .int .u8 0] 173)).setRow w1.heap.size (cellsB (fr k)).toArray) := below_setRow (B1.out.alloc B1.out.size _) B1.out.size _
     obtain ⟨b9, hb9⟩ : ∃ b9, w1.heap.size = b9 := ⟨_, rfl⟩
     have hb9' : wr.heap.size <= b9 := by rw [<- hb9]; exact B1.out.size
     rw [hb9] at K9 b12 ⊢
     obtain ⟨w2, hw2⟩ : ∃ w2, (w1.alloc (.cells #[.int .u8 0, .int .u8 0, .int .u8 0, .int .u8 0, .int .u8 0, .int .u8 0, .int .u8 0, .int .u8 0] 173)).setRow b9 (cellsB (fr k)).toArray = w2 := ⟨_, rfl⟩
     rw [hw2] at K9 b12 ⊢
     have KN := lH K9
     have B12 := lH b12
     have hb9lt := K9.lt
     have QO2 := lH (QO.out.below b12)
     have QM2 := lH (ownsMapU_only QM.out (Only.of_below (S := fun _ => False) b12 (Nat.le_refl _)) (fun h => h))
     have QH2 := lH (QH.out.below b12 QH.out.lt)
     have hzz := b12.size
     have QB2 : Hid (LeftB Z w g gd gp n S p j (fun b => ((b = gm \/ b = mp) \/ (Value.slice A' n' c').ownBlock = some b) \/ b = b9) w2) := lH (QB.out.own GLT.out GPT.out (Only.of_below b12 (Nat.le_refl _)) (fun k hk => hk.imp id fun e => ⟨by omega, by omega⟩))
     have BLT : Hid (∀ b, (((b = gm \/ b = mp) \/ (Value.slice A' n' c').ownBlock = some b) \/ b = b9) -> b < w2.heap.size) := lH (fun b hb => by obtain ⟨S2, d, hs, o, y, h1⟩ := QB2.out; exact (h1 b hb).2.2)
     have e7 : IntKind.i64.wrap (1 + (k : Int)) = 1 + (k : Int) := by rw [IntKind.wrap_i64]; omega
     clear K9 b12 hw2 hb9 Z8 QB QO QM QH
     try simp only [aP,aN,aS,aZ,aC]
     go_cut [10] (fun s10 wx => ∃ b10, s10 = .pointer (some ⟨b10, 0, none⟩) /\ LeftM Z w g gd gp n S p j (fun b => ((b = gm \/ b = mp) \/ (Value.slice A' n' c').ownBlock = some b) \/ b = b9) w2 b10 (dk k) wx)
     case first =>
      have LB : Hid (LeftN Z w g gd gp n S p j (fun b => ((b = gm \/ b = mp) \/ (Value.slice A' n' c').ownBlock = some b) \/ b = b9) w2 w2.drew) := lH (LeftN.same QB2.out).drew
      go_wp2_with fail
      refine wp_region_held_drew (S := fun W => ∃ e, JO W g gd gp n e j) (by kernel_rfl) ⟨_, LB.out.o⟩ (fun hHeld => ?_)
      refine tk9 (i := 0) (h := ?_)
      try simp only [aP,aN,aS,aZ,aC]
      refine tk9 (i := 1) (h := ?_)
      try simp only [aP,aN,aS,aZ,aC]
      refine tk9 (i := 2) (h := ?_)
      try simp only [aP,aN,aS,aZ,aC]
      refine tk9 (i := 3) (h := ?_)
      try simp only [aP,aN,aS,aZ,aC]
      refine tk9 (i := 4) (h := ?_)
      try simp only [aP,aN,aS,aZ,aC]
      refine tk9 (i := 5) (h := ?_)
      try simp only [aP,aN,aS,aZ,aC]
      refine tk9 (i := 6) (hy := (yieldsIf_loadG (by rfl) 137 (.tmp 61) rfl ⟨g, 2, none⟩ rfl _ (fun W hW => hW.choose_spec.mark))) (h := ?_)
      try simp only [aP,aN,aS,aZ,aC]
      refine tk9 (i := 7) (h := ?_)
      try simp only [aP,aN,aS,aZ,aC]
      refine tk9 (i := 8) (h := ?_)
      try simp only [aP,aN,aS,aZ,aC]
      refine wpAnyH_ready (rs := [9, 11]) (by kernel_rfl) (by simp) ?_
      refine rc9 (h := fun K hK => ?_) (hs := (rc9 (h := fun K hK => ?_) (hs := AllReadyH.nil)))
      · go_simp
        refine (CIk.out k _ (by omega)).mono ?_
        rintro en w6 ⟨rfl, b6⟩
        have L1 := lH (LB.out.below GLT.out GPT.out b6)
        clear b6
        refine hK _ _ ⟨_, L1.out.o⟩ (fun hH9 => ?_)
        clear hK K
        try simp only [aP,aN,aS,aZ,aC]
        refine wpAnyH_ready (rs := [10, 11]) (by kernel_rfl) (by simp) ?_
        refine rc9 (h := fun K hK => ?_) (hs := (rc9 (h := fun K hK => ?_) (hs := AllReadyH.nil)))
        · go_simp
          refine (CRN.out k _ _ _ L1.out).mono ?_
          rintro en w8 ⟨rfl, l8⟩
          have L2 := lH l8
          clear l8
          refine hK _ _ ⟨_, L2.out.o⟩ (fun hH10 => ?_)
          clear hK K
          try simp only [aP,aN,aS,aZ,aC]
          refine rd9 (i := 11) (h := fun K hK => ?_)
          go_simp
          rw [zc97]
          have LG := lH (L2.out.gm GLT.out GPT.out zsec)
          refine hK _ _ ⟨_, LG.out.o⟩ (fun hH11 => ?_)
          clear hK K
          try simp only [aP,aN,aS,aZ,aC]
          refine rd9 (i := 12) (h := fun K hK => ?_)
          refine step_store_sec rfl (.tmp 10) (.tmp 66) rfl (w8.heap.size) (dk k) rfl rfl _ zsec LG.out.2.2.1 zsec_len (DL.out k) ?_
          intro w9 h9 o9
          have lg9 := LG.out.row BLT.out GLT.out GPT.out h9 o9
          have LG9 := lH lg9
          refine hK _ _ ⟨_, lg9.o⟩ (fun hH12 => ?_)
          clear hK K lg9 h9 o9
          try simp only [aP,aN,aS,aZ,aC]
          refine wpAnyH_done (by kernel_rfl) ?_ _
          go_wp2_with fail
          go_meet
          exact ⟨w8.heap.size, rfl, LG9.out⟩
        · go_simp
          rw [zc97]
          have LH := lH (L1.out.gm GLT.out GPT.out zsec)
          refine hK _ _ ⟨_, LH.out.o⟩ (fun hH11 => ?_)
          clear hK K
          try simp only [aP,aN,aS,aZ,aC]
          refine rd9 (i := 10) (h := fun K hK => ?_)
          go_simp
          refine (CRM.out k _ _ _ _ _ LH.out).mono ?_
          rintro en w8 ⟨rfl, l8⟩
          have LG := lH l8
          clear l8
          refine hK _ _ ⟨_, LG.out.o⟩ (fun hH10 => ?_)
          clear hK K
          try simp only [aP,aN,aS,aZ,aC]
          refine rd9 (i := 12) (h := fun K hK => ?_)
          refine step_store_sec rfl (.tmp 10) (.tmp 66) rfl (w6.heap.size) (dk k) rfl rfl _ zsec LG.out.2.2.1 zsec_len (DL.out k) ?_
          intro w9 h9 o9
          have lg9 := LG.out.row BLT.out GLT.out GPT.out h9 o9
          have LG9 := lH lg9
          refine hK _ _ ⟨_, lg9.o⟩ (fun hH12 => ?_)
          clear hK K lg9 h9 o9
          try simp only [aP,aN,aS,aZ,aC]
          refine wpAnyH_done (by kernel_rfl) ?_ _
          go_wp2_with fail
          go_meet
          exact ⟨w6.heap.size, rfl, LG9.out⟩
      · go_simp
        rw [zc97]
        have LH := lH (LB.out.gm GLT.out GPT.out zsec)
        refine hK _ _ ⟨_, LH.out.o⟩ (fun hH11 => ?_)
        clear hK K
        try simp only [aP,aN,aS,aZ,aC]
        refine rd9 (i := 9) (h := fun K hK => ?_)
        go_simp
        refine (CIk.out k _ (by omega)).mono ?_
        rintro en w6 ⟨rfl, b6⟩
        have LI := lH (LH.out.below GLT.out GPT.out b6)
        clear b6
        refine hK _ _ ⟨_, LI.out.o⟩ (fun hH9 => ?_)
        clear hK K
        try simp only [aP,aN,aS,aZ,aC]
        refine rd9 (i := 10) (h := fun K hK => ?_)
        go_simp
        refine (CRM.out k _ _ _ _ _ LI.out).mono ?_
        rintro en w8 ⟨rfl, l8⟩
        have LG := lH l8
        clear l8
        refine hK _ _ ⟨_, LG.out.o⟩ (fun hH10 => ?_)
        clear hK K
        try simp only [aP,aN,aS,aZ,aC]
        refine rd9 (i := 12) (h := fun K hK => ?_)
        refine step_store_sec rfl (.tmp 10) (.tmp 66) rfl (w2.heap.size) (dk k) rfl rfl _ zsec LG.out.2.2.1 zsec_len (DL.out k) ?_
        intro w9 h9 o9
        have lg9 := LG.out.row BLT.out GLT.out GPT.out h9 o9
        have LG9 := lH lg9
        refine hK _ _ ⟨_, lg9.o⟩ (fun hH12 => ?_)
        clear hK K lg9 h9 o9
        try simp only [aP,aN,aS,aZ,aC]
        refine wpAnyH_done (by kernel_rfl) ?_ _
        go_wp2_with fail
        go_meet
        exact ⟨w2.heap.size, rfl, LG9.out⟩
     case rest =>
      obtain ⟨b10, rfl, lm⟩ := hcut
      have LM := lH lm
      have c3 := lm.o.c3
      have hb10 := lm.2.2.2
      clear lm
      have SB : Hid (∀ b, ((b = gm \/ b = mp) \/ (Value.slice A' n' c').ownBlock = some b) \/ b = b9 -> b < w2.heap.size) := lH BLT.out
      have hgw2 : mp + 1 <= w2.heap.size := by have := QZ.out; omega
      have hb9m : mp + 1 <= b9 := by have := QZ.out; omega
      have MC := lH (ownsMapU_only QM2.out LM.out.2.1 (fun h => h (.inl (.inl (.inr rfl)))))
      have HC := lH (QH2.out.keepO LM.out.2.1 (fun h => h (.inl (.inl (.inl rfl)))))
      have KC := lH (KN.out.keepO LM.out.2.1 (fun h => h (.inr rfl)))
      have OC := lH (QO2.out.only LM.out.2.1 (fun k hk h => h (.inl (.inr hk))))
      have DC := lH LM.out.2.2.1
      have LC : Hid (LeftB Z w g gd gp n S p j (fun b => (((b = gm \/ b = mp) \/ (Value.slice A' n' c').ownBlock = some b) \/ b = b9) \/ b = b10) wc) := lH LM.out.1
      have hwc : w2.heap.size <= wc.heap.size := LM.out.2.1.size
      have STP := LKS.out k
      rw [QK.out, Option.bind_some] at STP
      have hs3 := QS.out.hs (rw' k : Int)
      clear QM2 QH2 QO2 KN QB2 BLT LM
      by_cases hin : (rw' k : Int) ∈ hmz l
      · have HS : Hid (Maps.has D (.int .i64 (rw' k : Int)) = true) := lH (by rw [hs3]; exact decide_eq_true hin)
        rw [if_pos (.inl ((hmz_mem l _).1 hin))] at STP
        have RV : Hid (L = []) := lH (FIN0.out k hlt' STP)
        have FINL : Hid (∀ W, Below wc.heap.size wc W -> LeftJ Z w g gd gp n S p j W) := lH (fun W hW => (LC.out.below GLT.out GPT.out hW).left)
        clear STP hs3 hin
        go_upto_region 13 with (first | (at_lookup; refine wpList_lookup_own_unit _ rfl (.tmp 68) (.tmp 69) 192 rfl 3 193 intK Tryz.underlying192 (zeroUnit _) mp k D rfl MC.out _ (.int .i64 (rw' k : Int)) rfl (keyZ (by omega)) ?_; rw [HS.out]))
        go_quiet (fail)
        go_wp2_with fail
        go_ret
        exact ⟨none, 0, 0, rfl, by rw [RV.out]; rfl, fun hh => absurd rfl hh, FINL.out _ (((Below.refl _ wc).alloc (Nat.le_refl _) _).trans ⟨rfl, rfl, rfl, Nat.le_refl _, fun _ _ => rfl⟩)⟩
      · have HS : Hid (Maps.has D (.int .i64 (rw' k : Int)) = false) := lH (by rw [hs3]; exact decide_eq_false hin)
        have hin2 : ¬ rw' k ∈ l.map Ch.home := fun h => hin ((hmz_mem l _).2 h)
        clear hs3 hin
        go_upto_region 13 with (first | (at_lookup; refine wpList_lookup_own_unit _ rfl (.tmp 68) (.tmp 69) 192 rfl 3 193 intK Tryz.underlying192 (zeroUnit _) mp k D rfl MC.out _ (.int .i64 (rw' k : Int)) rfl (keyZ (by omega)) ?_; rw [HS.out]))
        obtain ⟨W3, hW3⟩ : ∃ W3, wc.alloc (.cells #[] 193) = W3 := ⟨_, rfl⟩
        rw [hW3]
        have b3 : Below wc.heap.size wc W3 := by rw [<- hW3]; exact (Below.refl _ _).alloc (Nat.le_refl _) _
        have B3 := lH b3
        have L3 : Hid (LeftN Z w g gd gp n S p j (fun b => (((b = gm \/ b = mp) \/ (Value.slice A' n' c').ownBlock = some b) \/ b = b9) \/ b = b10) wc W3.drew) := lH ((LeftN.same LC.out).below GLT.out GPT.out b3).drew
        clear hW3 b3
        go_wp2_with fail
        refine wp_region_held_drew (S := fun W => ∃ e, JO W g gd gp n e j) (by kernel_rfl) ⟨_, L3.out.o⟩ (fun hHeld => ?_)
        refine tk9 (i := 0) (h := ?_)
        try simp only [aP,aN,aS,aZ,aC]
        refine tk9 (i := 1) (h := ?_)
        try simp only [aP,aN,aS,aZ,aC]
        refine tk9 (i := 2) (h := ?_)
        try simp only [aP,aN,aS,aZ,aC]
        refine tk9 (i := 3) (h := ?_)
        try simp only [aP,aN,aS,aZ,aC]
        by_cases hhm : rw' k < hh
        · have HM : Hid (decide (0 <= (rw' k : Int) /\ (rw' k : Int) < (hh : Int)) = true) := lH (decide_eq_true (by omega))
          by_cases htg : ek k = tt
          · have hne : ((ek k : Int) != (tt : Int)) = false := by rw [htg]; exact bne_self_eq_false _
            rw [if_neg (by rintro (h1 | h1 | h1); exact hin2 h1; omega; exact h1 htg)] at STP
            have STP2 := lH STP
            clear STP htg hhm hin2
            refine rd9 (i := 4) (h := fun K hK => ?_)
            go_simp
            refine (CHm.out (rw' k : Int) _ _ L3.out.1 (by omega)).mono ?_
            rintro en w6 ⟨rfl, b6⟩
            have L4 := lH (L3.out.below GLT.out GPT.out b6)
            clear b6
            rw [HM.out]
            refine hK _ _ ⟨_, L4.out.o⟩ (fun hH4 => ?_)
            clear hK K
            try simp only [aP,aN,aS,aZ,aC]
            have D4 := lH (DC.out.keepO L4.out.2 (fun h => h (.inr rfl)))
            refine tk9 (i := 5) (h := ?_)
            try simp only [aP,aN,aS,aZ,aC]
            refine tk9 (i := 6) (h := ?_)
            try simp only [aP,aN,aS,aZ,aC]
            refine tk9 (i := 7) (h := ?_)
            try simp only [aP,aN,aS,aZ,aC]
            refine tk9 (i := 9) (h := ?_)
            try simp only [aP,aN,aS,aZ,aC]
            refine tk9 (i := 10) (h := ?_)
            try simp only [aP,aN,aS,aZ,aC]
            refine tk9 (i := 11) (h := ?_)
            try simp only [aP,aN,aS,aZ,aC]
            refine tk9 (i := 12) (h := ?_)
            try simp only [aP,aN,aS,aZ,aC]
            refine tk9 (i := 13) (hy := (yieldsIf_loadG (by rfl) 89 (.tmp 85) rfl ⟨g, 3, none⟩ rfl _ (fun W hW => load_u64 hW.choose_spec.c3))) (h := ?_)
            try simp only [aP,aN,aS,aZ,aC]
            refine rd9 (i := 8) (h := fun K hK => ?_)
            go_simp
            refine (CNk.out k b10 _ D4.out).mono ?_
            rintro en w7 ⟨rfl, rfl⟩
            refine hK _ _ ⟨_, L4.out.o⟩ (fun hH8 => ?_)
            clear hK K
            try simp only [aP,aN,aS,aZ,aC]
            refine rd9 (i := 14) (h := fun K hK => ?_)
            go_simp
            refine (CRT.out _).mono ?_
            rintro en w7 ⟨rfl, rfl⟩
            refine hK _ _ ⟨_, L4.out.o⟩ (fun hH14 => ?_)
            clear hK K
            try simp only [aP,aN,aS,aZ,aC]
            refine tk9 (i := 15) (h := ?_)
            try simp only [aP,aN,aS,aZ,aC]
            refine tk9 (i := 16) (h := ?_)
            try simp only [aP,aN,aS,aZ,aC]
            refine wpAnyH_done (by kernel_rfl) ?_ _
            have M6 := lH (ownsMapU_only MC.out L4.out.2 (fun h => h (.inl (.inl (.inl (.inr rfl))))))
            have H6 := lH (HC.out.keepO L4.out.2 (fun h => h (.inl (.inl (.inl (.inl rfl))))))
            have K6 := lH (KC.out.keepO L4.out.2 (fun h => h (.inl (.inr rfl))))
            have O6 := lH (OC.out.only L4.out.2 (fun k hk h => h (.inl (.inl (.inr hk)))))
            have LB6 := lH L4.out.1
            have hw6 : wc.heap.size <= w6.heap.size := L4.out.2.size
            clear MC HC KC OC DC LC
            clear HS HM
            go_upto_region 16 with (first
             | (at_mapUpdate; refine wpList_mapUpdate_own w6 rfl (.tmp 90) (.tmp 91) (.tmp 92) 192 rfl 3 193 intK Tryz.underlying192 unitElem mp k D rfl M6.out (by simp only [maxLen]; omega) _ _ (.int .i64 (rw' k : Int)) rfl rfl (keyZ (by omega)) (.agg []) [] unitElem_mk ?_; intro w8 own8 g8
                have M8 := lH own8
                have G8 := lH (Only.grown g8)
                clear own8 g8))
            try simp only [aP,aN,aS,aZ,aC]
            obtain ⟨y, hy⟩ : ∃ y, over (dk k) 0 (fr k) = y := ⟨_, rfl⟩
            have hyl : y.length = 512 := by rw [<- hy]; exact over_512 (DL.out k) (by rw [FR2.out k hk40]; omega)
            have hl8 : (fr k).length = 8 := FR2.out k hk40
            rw [hy] at STP2
            have HY := lH hy
            have HYL := lH hyl
            have hw8 : wc.heap.size <= w8.heap.size := by have := G8.out.size; omega
            have hobk : ∀ q, (Value.slice A' n' c').ownBlock = some q -> mp + 1 <= q /\ q < w2.heap.size := fun q hq => ⟨(O6.out.lt q hq).1, SB.out q (.inl (.inr hq))⟩
            have hb10 : mp + 1 <= b10 := by omega
            have D8' := D4.out.keepO G8.out (show ¬ b10 = mp by omega)
            have D8 : Hid (Bw w8.drew b10 185 (dk k)) := lH D8'
            have K8 := K6.out.keepO G8.out (show ¬ b9 = mp by omega)
            have F8 : Hid (HasB w8.drew w8.drew.heap.size (some ⟨b9, 0, none⟩) 8 (fr k)) := lH (Bw.has (w := w8.drew) K8 hl8.symm)
            have H8 := lH (H6.out.keepO G8.out (show ¬ gm = mp by omega))
            have O8 := lH (O6.out.only G8.out (fun q hq h => by have h2 := hobk q hq; (try dsimp only at h); omega))
            have LB8 : Hid (LeftB Z w g gd gp n S p j (fun b => (((b = gm \/ b = mp) \/ (Value.slice A' n' c').ownBlock = some b) \/ b = b9) \/ b = b10) w8) := lH (LB6.out.own GLT.out GPT.out (G8.out.mono (fun q _ hq => .inl (.inl (.inl (.inl (.inr hq)))))) (fun q hq => .inl hq))
            have HL8 := lH hl8
            clear hy D8' K8 H6 K6 O6 LB6 D4 M6 hyl
            go_wp2_with fail
            go_still_tail 2, (by kernel_rfl)
            change wpList _ _ _ _ _ w8.drew
            go_wp2_with (first
             | (refine wp_copyB rfl (.tmp 93) (.tmp 94) rfl Tryz.underlying34 hsz1 b10 0 512 512 _ (dk k) (fr k) D8.out rfl _ _ 8 8 rfl F8.out (by omega) (by rw [DL.out k]; omega) ?_; intro w10 q10 o10
                rw [HY.out] at q10
                have Q10 := lH q10
                have O10 : Hid (Only (fun q => q = b10) w8 w10) := lH ((Only.refl _ w8).drew.trans o10)
                have own11 := (O8.out.only O10.out (fun q hq h => by have h2 := hobk q hq; (try dsimp only at h); omega)).below ((Below.refl w10.heap.size w10).alloc (Nat.le_refl _) (.cells (chC ⟨rw' k, y⟩).toArray 196))
                have OW11 := lH own11
                clear q10 o10 own11)
             | (refine wp_load_sec rfl (.tmp 10) rfl b10 rfl _ y Q10.out HYL.out ?_)
             | (refine wp_bd2 rfl 196 0 1 (.tmp 97) (.tmp 98) rfl _ _ rfl rfl _ (built_ch (rw' k : Int) y HYL.out) ?_)
             | (refine wp_slice_ch rfl (.tmp 99) rfl ⟨rw' k, y⟩ HYL.out rfl ?_)
             | (refine wp_app_chG rfl (.tmp 96) (.tmp 100) rfl (mp + 1) _ l rfl OW11.out w10.heap.size 1 ⟨rw' k, y⟩ HYL.out rfl (heap_alloc_new _ _) (by have := QL.out; omega) (by have := O10.out.size; simp; omega) ?_; intro A2 n2' c2 w12 own12 gr12 ob12
                have OW12 := lH own12
                have GR12 := lH gr12
                have OB12 := lH ob12
                clear own12 gr12 ob12))
            have Y12 : Only (fun q => (Value.slice A' n' c').ownBlock = some q \/ q = b10 \/ w8.heap.size <= q) w8 w12 := (O10.out.mono (fun q _ h => .inr (.inl h))).trans ((Only.of_below ((Below.refl w10.heap.size w10).alloc (Nat.le_refl _) (.cells (chC ⟨rw' k, y⟩).toArray 196)) (Nat.le_refl _)).trans ((Only.grownO GR12.out).mono (fun q _ h => .inl h)))
            have hw10 : w8.heap.size <= w10.heap.size := O10.out.size
            have hsz11 : (w10.alloc (.cells (chC ⟨rw' k, y⟩).toArray 196)).heap.size = w10.heap.size + 1 := by simp
            have hNO : ∀ b, ¬ (Value.slice A' n' c').ownBlock = some b -> b ≠ b10 -> b < w8.heap.size -> ¬ ((Value.slice A' n' c').ownBlock = some b \/ b = b10 \/ w8.heap.size <= b) := by
             rintro b h1 h2 h3 (h | h | h)
             · exact h1 h
             · exact h2 h
             · omega
            have M12 := lH (ownsMapU_only M8.out Y12 (hNO mp (fun h => by have := hobk mp h; omega) (by omega) (by have := QZ.out; have := G8.out.size; omega)))
            have H12 := lH (H8.out.keepO Y12 (hNO gm (fun h => by have := hobk gm h; omega) (by omega) H8.out.lt))
            have L12 : Hid (LeftB Z w g gd gp n S p j (fun b => (b = gm \/ b = mp) \/ (Value.slice A2 n2' c2).ownBlock = some b) w12) := lH (LB8.out.own GLT.out GPT.out (Y12.mono (fun q _ h => by
             rcases h with h | h | h
             · exact .inl (.inl (.inl (.inr h)))
             · exact .inl (.inr h)
             · exact .inr h)) (fun q hq => by
             rcases hq with hq | hq
             · exact .inl (.inl (.inl (.inl hq)))
             · rcases OB12.out with h | h
               · rw [h] at hq; exact .inl (.inl (.inl (.inr hq)))
               · have h2 := (OW12.out.lt q hq).2
                 rw [h] at hq
                 injection hq with hq
                 exact .inr ⟨by omega, h2⟩))
            have Z12 : Hid (mp + 1 <= w12.heap.size) := lH (by have := Y12.size; have := QZ.out; have := G8.out.size; omega)
            clear Y12 hNO
            go_roundw
            case measure => simp [Go.RowKit.intOf]; omega
            case rel =>
             refine ⟨_, Value.slice A2 n2' c2, _, _, _, _, _, _, Value.int .i64 ((k : Int) + 1), ⟨k + 1, by omega, by go_num, A2, n2', c2, rfl, l ++ [⟨rw' k, y⟩], STP2.out, by rw [List.length_append, QL.out]; rfl, OW12.out, D.put (.int .i64 (rw' k : Int)) (.agg []), M12.out, by rw [hmz_snoc]; exact QS.out.put _ _, H12.out, L12.out, Z12.out⟩, rfl, rfl, rfl, rfl, rfl, rfl, rfl, rfl, rfl⟩
          · have hne : ((ek k : Int) != (tt : Int)) = true := by rw [bne_iff_ne]; omega
            rw [if_pos (.inr (.inr htg))] at STP
            have RV : Hid (L = []) := lH (FIN0.out k hlt' STP)
            clear STP htg hhm hin2
            refine rd9 (i := 4) (h := fun K hK => ?_)
            go_simp
            refine (CHm.out (rw' k : Int) _ _ L3.out.1 (by omega)).mono ?_
            rintro en w6 ⟨rfl, b6⟩
            have L4 := lH (L3.out.below GLT.out GPT.out b6)
            clear b6
            rw [HM.out]
            refine hK _ _ ⟨_, L4.out.o⟩ (fun hH4 => ?_)
            clear hK K
            try simp only [aP,aN,aS,aZ,aC]
            have D4 := lH (DC.out.keepO L4.out.2 (fun h => h (.inr rfl)))
            refine tk9 (i := 5) (h := ?_)
            try simp only [aP,aN,aS,aZ,aC]
            refine tk9 (i := 6) (h := ?_)
            try simp only [aP,aN,aS,aZ,aC]
            refine tk9 (i := 7) (h := ?_)
            try simp only [aP,aN,aS,aZ,aC]
            refine tk9 (i := 9) (h := ?_)
            try simp only [aP,aN,aS,aZ,aC]
            refine tk9 (i := 10) (h := ?_)
            try simp only [aP,aN,aS,aZ,aC]
            refine tk9 (i := 11) (h := ?_)
            try simp only [aP,aN,aS,aZ,aC]
            refine tk9 (i := 12) (h := ?_)
            try simp only [aP,aN,aS,aZ,aC]
            refine tk9 (i := 13) (hy := (yieldsIf_loadG (by rfl) 89 (.tmp 85) rfl ⟨g, 3, none⟩ rfl _ (fun W hW => load_u64 hW.choose_spec.c3))) (h := ?_)
            try simp only [aP,aN,aS,aZ,aC]
            refine rd9 (i := 8) (h := fun K hK => ?_)
            go_simp
            refine (CNk.out k b10 _ D4.out).mono ?_
            rintro en w7 ⟨rfl, rfl⟩
            refine hK _ _ ⟨_, L4.out.o⟩ (fun hH8 => ?_)
            clear hK K
            try simp only [aP,aN,aS,aZ,aC]
            refine rd9 (i := 14) (h := fun K hK => ?_)
            go_simp
            refine (CRT.out _).mono ?_
            rintro en w7 ⟨rfl, rfl⟩
            refine hK _ _ ⟨_, L4.out.o⟩ (fun hH14 => ?_)
            clear hK K
            try simp only [aP,aN,aS,aZ,aC]
            refine tk9 (i := 15) (h := ?_)
            try simp only [aP,aN,aS,aZ,aC]
            refine tk9 (i := 16) (h := ?_)
            try simp only [aP,aN,aS,aZ,aC]
            refine wpAnyH_done (by kernel_rfl) ?_ _
            go_wp2_with fail
            go_ret
            exact ⟨none, 0, 0, rfl, by rw [RV.out]; rfl, fun hh => absurd rfl hh, L4.out.1.left⟩
        · have HM : Hid (decide (0 <= (rw' k : Int) /\ (rw' k : Int) < (hh : Int)) = false) := lH (decide_eq_false (by omega))
          rw [if_pos (.inr (.inl (by omega)))] at STP
          have RV : Hid (L = []) := lH (FIN0.out k hlt' STP)
          clear STP
          refine rd9 (i := 4) (h := fun K hK => ?_)
          go_simp
          refine (CHm.out (rw' k : Int) _ _ L3.out.1 (by omega)).mono ?_
          rintro en w6 ⟨rfl, b6⟩
          have L4 := lH (L3.out.below GLT.out GPT.out b6)
          clear b6
          rw [HM.out]
          refine hK _ _ ⟨_, L4.out.o⟩ (fun hH4 => ?_)
          clear hK K
          try simp only [aP,aN,aS,aZ,aC]
          refine tk9 (i := 5) (h := ?_)
          try simp only [aP,aN,aS,aZ,aC]
          refine tk9 (i := 6) (h := ?_)
          try simp only [aP,aN,aS,aZ,aC]
          refine tk9 (i := 7) (h := ?_)
          try simp only [aP,aN,aS,aZ,aC]
          refine tk9 (i := 8) (v := undef) (hy := (Or.inr ⟨by rfl, rfl⟩)) (h := ?_)
          try simp only [aP,aN,aS,aZ,aC]
          refine tk9 (i := 9) (v := undef) (hy := (Or.inr ⟨by rfl, rfl⟩)) (h := ?_)
          try simp only [aP,aN,aS,aZ,aC]
          refine tk9 (i := 10) (v := undef) (hy := (Or.inr ⟨by rfl, rfl⟩)) (h := ?_)
          try simp only [aP,aN,aS,aZ,aC]
          refine tk9 (i := 11) (v := undef) (hy := (Or.inr ⟨by rfl, rfl⟩)) (h := ?_)
          try simp only [aP,aN,aS,aZ,aC]
          refine tk9 (i := 12) (v := undef) (hy := (Or.inr ⟨by rfl, rfl⟩)) (h := ?_)
          try simp only [aP,aN,aS,aZ,aC]
          refine tk9 (i := 13) (v := undef) (hy := (Or.inr ⟨by rfl, rfl⟩)) (h := ?_)
          try simp only [aP,aN,aS,aZ,aC]
          refine tk9 (i := 14) (v := undef) (hy := (Or.inr ⟨by rfl, rfl⟩)) (h := ?_)
          try simp only [aP,aN,aS,aZ,aC]
          refine tk9 (i := 15) (v := undef) (hy := (Or.inr ⟨by rfl, rfl⟩)) (h := ?_)
          try simp only [aP,aN,aS,aZ,aC]
          refine tk9 (i := 16) (h := ?_)
          try simp only [aP,aN,aS,aZ,aC]
          refine wpAnyH_done (by kernel_rfl) ?_ _
          go_wp2_with fail
          go_ret
          exact ⟨none, 0, 0, rfl, by rw [RV.out]; rfl, fun hh => absurd rfl hh, L4.out.1.left⟩
   · obtain rfl : k = c := by omega
     have e1 := FIN1.out l qk
     subst e1
     go_wp2_with fail
     go_ret
     have hmpw : w.heap.size <= mp := by
      obtain ⟨S2, d, hs, o, y, h1⟩ := qb
      exact (h1 mp (.inl (.inr rfl))).2.1
     refine ⟨A', n', c', rfl, qo.len, fun hn => ?_, qb.left⟩
     obtain ⟨gl, h1, _, h3, h4⟩ := qo.row (by omega)
     exact ⟨gl, h1, h4, by omega⟩
theorem jload_any (h : JO w g gd gp n p.e j) (d : Z.D w gd S n p.m) (ok : p.m.Ok n) (he : p.e = 0) (live : p.m.readE n 0 = 0) (a : Apart w g gp S) :
 Calls Tryz.prog 109 #[.pointer (some ⟨g, 0, none⟩)] w (RetLd Z w g gd gp n S (ldL p.m n j.k (j.homes n)) p j) := by
 by_cases hbad : tagOf (lst (p.m.readS n (j.k.inRing 0 : Nat))) ≠ 2 * j.k.turn + 1 \/ 40 < num (sub (lst (p.m.readS n (j.k.inRing 0 : Nat))) 8 2) \/ j.k.ring <= num (sub (lst (p.m.readS n (j.k.inRing 0 : Nat))) 8 2)
 · have e1 : ldL p.m n j.k (j.homes n) = [] := by
    unfold ldL
    simp only []
    rw [if_pos hbad]
   rw [e1]
   exact jload_nil h d ok he live a hbad
 · exact jload_some h d ok he live a hbad
end
end Go.Proofs.YthoebjekkfhhgaaGreat
