/-
  Own work. Transactions over a journal whose disk goes: Made, Begin, Write, Commit; begun.
-/
import Derived.Test.YtadagbkfemcgfaaGreatTb
import Derived.Test.YtadagbkfemcgfaaGreatFu
namespace Go.Proofs.YtadagbkfemcgfaaGreat
open Go.RowKit Go.Maps
set_option linter.unusedVariables false
set_option linter.unusedSimpArgs false

/-! ### Changes at homes that differ -/
theorem putH_out : ∀ (l : List Ch) (H : Nat → List UInt8) (i : Nat), (∀ c ∈ l, c.home ≠ i) → putH H l i = H i
  | [], _, _, _ => rfl
  | c :: l, H, i, h => by
    show putH (upd H c.home c.data) l i = H i
    rw [putH_out l _ i (fun x hx => h x (by simp [hx])), upd_ne (fun e => h c (by simp) e.symm)]
theorem putH_in : ∀ (l : List Ch) (H : Nat → List UInt8), (l.map Ch.home).Nodup → ∀ c ∈ l, putH H l c.home = c.data
  | [], _, _, c, hc => absurd hc (by simp)
  | x :: l, H, hn, c, hc => by
    rw [List.map_cons, List.nodup_cons] at hn
    show putH (upd H x.home x.data) l c.home = c.data
    rcases List.mem_cons.1 hc with rfl | hc
    · rw [putH_out l _ _ (fun y hy e => hn.1 (by rw [← e]; exact List.mem_map_of_mem hy)), upd_same]
    · exact putH_in l _ hn.2 c hc
/-- The homes behind a transaction that wrote ws. -/
def txH (H : Nat → List UInt8) (ws : List ByteArray) : Nat → List UInt8 := fun i => if (ws.getD i emp).size ≠ 0 then lst (ws.getD i emp) else H i
theorem frK_nodup (f : List ByteArray) (k : Nat) : (frK f k).Nodup := List.Pairwise.filter _ (List.nodup_range (n := k))
theorem tPu_homes (ws : List ByteArray) (h : Nat) : (chs (tPu ws h)).map Ch.home = frK ws h := by
  unfold chs tPu
  rw [List.map_map, List.map_map]
  have : (Ch.home ∘ (fun (x : Pu) => (⟨x.i.toNat, x.data⟩ : Ch)) ∘ fun (i : Nat) => (⟨(i : Int), lst (ws.getD i emp)⟩ : Pu)) = id := by
    funext i
    simp
  exact (congrArg (fun f => List.map f (frK ws h)) this).trans (List.map_id _)
theorem putH_tPu (H : Nat → List UInt8) (ws : List ByteArray) (h : Nat) {i : Nat} (hi : i < h) : putH H (chs (tPu ws h)) i = txH H ws i := by
  unfold txH
  by_cases h0 : (ws.getD i emp).size ≠ 0
  · rw [if_pos h0]
    have hm : (⟨i, lst (ws.getD i emp)⟩ : Ch) ∈ chs (tPu ws h) := by
      unfold chs tPu
      rw [List.map_map]
      exact List.mem_map.2 ⟨i, frK_in hi h0, by simp⟩
    exact putH_in _ H (by rw [tPu_homes]; exact frK_nodup ws h) _ hm
  · rw [if_neg h0]
    refine putH_out _ _ _ (fun c hc e => ?_)
    have : c.home ∈ frK ws h := by rw [← tPu_homes]; exact List.mem_map_of_mem hc
    rw [e] at this
    exact h0 (frK_mem this).2
theorem tPu_ok {ws : List ByteArray} {h : Nat} (hl : ws.length = h) (hz : ∀ s ∈ ws, s.size = 0 ∨ s.size = 512) : ∀ x ∈ tPu ws h, 0 ≤ x.i ∧ x.i < (h : Nat) ∧ x.data.length = 512 := by
  intro x hx
  unfold tPu at hx
  obtain ⟨i, hi, rfl⟩ := List.mem_map.1 hx
  obtain ⟨h1, h2⟩ := frK_mem hi
  have hmem : ws.getD i emp ∈ ws := by
    rw [List.getD_eq_getElem?_getD, List.getElem?_eq_getElem (by omega)]
    exact List.getElem_mem _
  refine ⟨by show (0 : Int) ≤ (i : Int); omega, by show (i : Int) < (h : Nat); omega, ?_⟩
  rcases hz _ hmem with h0 | h0
  · exact absurd h0 h2
  · exact h0
theorem tPu_nodup (ws : List ByteArray) (h : Nat) : ((tPu ws h).map Pu.i).Nodup := by
  unfold tPu
  rw [List.map_map]
  unfold List.Nodup
  rw [List.pairwise_map]
  refine (frK_nodup ws h).imp (fun {a b} hab hh => hab ?_)
  have h2 : (a : Int) = (b : Int) := hh
  omega
/-! ### Over a journal that is up -/
section
variable {Z : DK} {w0 w W W' : World} {gt g gd gp n V T Tt u r h q : Nat} {p : Pt} {j : JM} {H : Nat → List UInt8} {B M : Nat → Prop} {ws : List ByteArray}
theorem TO.wl (a : TO W gt g T h q ws M) : ws.length = h ∧ (∀ s ∈ ws, s.size = 0 ∨ s.size = 512) ∧ h ≤ 4096 := by
  obtain ⟨⟨gm, _, v⟩, _, _⟩ := a
  exact ⟨v.wl, v.wz, v.hh⟩
theorem begin_up (a : UpB Z w0 W g gd gp n p j B) (b : SJ p n V j T u r H) (hV : V ≤ 1073000000) :
    Calls Tryz.prog 19 #[.pointer (some ⟨g, 0, none⟩)] W fun en W' => ∃ gt gm, en = .returned (.tuple #[.pointer (some ⟨gt, 0, none⟩), .int .i64 0]) ∧ TO W' gt g (T - 1) (n - 2 - r) 0 (List.replicate (n - 2 - r) emp) (fun k => k = gm) ∧ UpB Z w0 W' g gd gp n p j (fun k => B k ∨ k = gt ∨ k = gm) ∧ W.heap.size ≤ gt ∧ W.heap.size ≤ gm ∧ Only (fun k => ¬ B k) W W' := by
  obtain ⟨b1, b2, b3, b4, b5, b6, b7, b8, b9, b10, b11, b12⟩ := b.homes
  obtain ⟨_, ok, _, hw, _, _⟩ := b.jok hV
  have q := tbegin_any a ok (by omega) (by rw [b2, b4]; exact b9) (by rw [b3]; exact b10) b.nil
  unfold RetBe at q
  rw [b1, b3] at q
  exact q
theorem write_up (a : UpB Z w0 W g gd gp n p j B) (b : SJ p n V j T u r H) (hV : V ≤ 1073000000) (t : TO W gt g Tt (n - 2 - r) q ws M) (hB : B gt) (hM : ∀ k, M k → B k) (i : Nat) (hi : i < n - 2 - r) (A : Option Addr) (c : Nat) (l : List UInt8) (hd : HasB W W.heap.size A 512 l) (hl : l.length = 512) (hc : 512 ≤ c)
    (hfit : (ws.getD i emp).size ≠ 0 ∨ (frK ws (n - 2 - r)).length < 40) (hq : q < 1073741824) :
    Calls Tryz.prog 32 #[.pointer (some ⟨gt, 0, none⟩), .int .i64 (i : Int), .slice A 512 c] W fun en W' => en = .returned (.int .i64 0) ∧ ∃ M', TO W' gt g Tt (n - 2 - r) (q + 1) (ws.set i (strB l)) M' ∧ UpB Z w0 W' g gd gp n p j (fun k => B k ∨ M' k) ∧ (∀ k, M' k → M k ∨ (W.heap.size ≤ k ∧ k < W'.heap.size)) ∧ Only (fun k => k = gt) W W' := by
  obtain ⟨b1, b2, b3, b4, b5, b6, b7, b8, b9, b10, b11, b12⟩ := b.homes
  obtain ⟨_, ok, _, hw, _, _⟩ := b.jok hV
  have hml := t.ml
  have ht0 := t
  refine (twrite_ok t a ok b1 i hi A c l hd hl hc hfit hq).mono ?_
  rintro en W' ⟨he, M', t1, t2, t3⟩
  exact ⟨he, M', t1, a.own (t3.mono (fun k _ hk => .inl (hk ▸ hB))) (fun k hk => by
    rcases hk with hk | hk
    · exact .inl hk
    · rcases t2 k hk with h' | h'
      · exact .inl (hM k h')
      · exact .inr h'), t2, t3⟩
/-- A Commit of what was begun at this turn. -/
theorem commit_tx (a : UpB Z w0 W g gd gp n p j B) (b : SJ p n V j T u r H) (hV : V + n + 60 ≤ 1073000000) (t : TO W gt g (T - 1) (n - 2 - r) q ws M) (hB : B gt) (hc : (frK ws (n - 2 - r)).length ≤ 40) (hcr : (frK ws (n - 2 - r)).length < r) (hq : q ≤ 1073741824) :
    Calls Tryz.prog 20 #[.pointer (some ⟨gt, 0, none⟩)] W fun en W' => en = .returned (.int .i64 0) ∧ TZ W' gt ∧ (∃ p' j' T' u', UpB Z w0 W' g gd gp n p' j' B ∧ SJ p' n (V + n + 43) j' T' u' r (txH H ws) ∧ (frK ws (n - 2 - r) ≠ [] → T' = T + 1) ∧ p'.m.powers = p.m.powers) ∧ Only (fun k => ¬ B k ∨ k = gt) W W' := by
  obtain ⟨b1, b2, b3, b4, b5, b6, b7, b8, b9, b10, b11, b12⟩ := b.homes
  obtain ⟨_, ok, _, hw, _, _⟩ := b.jok (by omega)
  obtain ⟨wl, wz, hh⟩ := t.wl
  have hlen : (tPu ws (n - 2 - r)).length = (frK ws (n - 2 - r)).length := tPu_len _ _
  refine (tcommit_new t a hB ok (by omega) (by rw [b2, b4]; exact b9) (by rw [b3]; exact b10) (by rw [b3]) hq (by omega)).mono ?_
  rintro en W' ⟨he, z, u2, y⟩
  by_cases hne : frK ws (n - 2 - r) = []
  · have hnil : tPu ws (n - 2 - r) = [] := by unfold tPu; rw [hne]; rfl
    rw [hnil, b.nil] at he u2
    have hH : ∀ i, i < n - 2 - r → H i = txH H ws i := fun i hi => by
      unfold txH
      rw [if_neg]
      intro h0
      have := frK_in (F := ws) hi h0
      rw [hne] at this
      cases this
    exact ⟨he, z, ⟨p, j, T, u, u2, (b.congr hH).more (by omega), fun h' => absurd hne h', rfl⟩, y⟩
  · have hv : lstE n j (tPu ws (n - 2 - r)) = 0 := b.may (tPu_ok wl wz) (tPu_nodup _ _) (by omega) (by omega)
    have hpn : tPu ws (n - 2 - r) ≠ [] := fun h' => hne (by
      have := congrArg List.length h'
      rw [hlen] at this
      exact List.length_eq_zero_iff.1 this)
    obtain ⟨c1, c2⟩ := b.commit hV hv hpn
    rw [c1] at he
    exact ⟨he, z, ⟨_, _, _, _, u2, c2.congr (fun i hi => putH_tPu H ws _ hi), fun _ => rfl, cmt_powers _ _ _ _⟩, y⟩
/-- What Made hands back. -/
def MadeUp (Z : DK) (w0 : World) (n r : Nat) (en : Ending) (W' : World) : Prop :=
  ∃ gd g gp p j, en = .returned (.tuple #[.pointer (some ⟨gd, 0, none⟩), .pointer (some ⟨g, 0, none⟩)]) ∧ UpB Z w0 W' g gd gp n p j (fun _ => False) ∧ SJ p n (2 * n + 2) j 1 0 r (fun _ => zsec) ∧ p.m.powers = 0
set_option maxRecDepth 100000 in
set_option maxHeartbeats 1000000 in
theorem made_any (Z : DK) (w0 w : World) (hb0 : Below w0.heap.size w0 w) (n r : Nat) (h1 : 32 ≤ n) (h2 : n ≤ 4096) (r1 : 8 ≤ r) (r2 : r ≤ 1024) (r3 : r + 10 ≤ n) :
    Calls Tryz.prog 18 #[.int .i64 (n : Int), .int .i64 (r : Int)] w (MadeUp Z w0 n r) := by
  have CN : Hid (Calls Tryz.prog 34 #[.int .i64 (n : Int)] w fun e W' => ∃ g, e = .returned (.pointer (some ⟨g, 0, none⟩)) ∧ OnD Z w0 W' g n (newM n)) := Lib.hid (new_up Z w0 w hb0 n h1 h2)
  obtain ⟨q0, c0⟩ := QP.new n h1 h2
  have hpw : (fmtP (newM n) n r).m.powers = 0 := fmtP_powers _ _ _
  have ds : DS (fmtP (newM n) n r) n (0 + n + 1) 1 r (fun _ => zsec) := DS.fmt q0 (by omega) r r1 r2 r3
  have CF : Hid (∀ gd W, OnD Z w0 W gd n (newM n) → Calls Tryz.prog 35 #[.pointer (some ⟨gd, 0, none⟩), .int .i64 (r : Int)] W fun en W' => (∃ e : Int, en = .returned (.int .i64 e)) ∧ OnD Z w0 W' gd n (fmtP (newM n) n r).m) := Lib.hid (fun gd W a => (format_up a r q0.ok (by show 0 ≤ _; omega) r1 r2 r3).mono (by rintro en W' ⟨h, h'⟩; exact ⟨⟨_, h⟩, h'⟩))
  have CO : Hid (∀ gd W, OnD Z w0 W gd n (fmtP (newM n) n r).m → Calls Tryz.prog 36 #[.pointer (some ⟨gd, 0, none⟩)] W fun en W' => ∃ g gp p' j', en = .returned (.tuple #[.pointer (some ⟨g, 0, none⟩), .int .i64 0]) ∧ UpB Z w0 W' g gd gp n p' j' (fun _ => False) ∧ SJ p' n (0 + n + 1 + n + 1) j' 1 0 r (fun _ => zsec) ∧ p'.m.powers = (fmtP (newM n) n r).m.powers ∧ W.heap.size ≤ g ∧ Only (fun k => ¬ False) W W') := Lib.hid (fun gd W a => a.b.open_ ds (by omega))
  obtain ⟨P1, hP1⟩ : ∃ P1, fmtP (newM n) n r = P1 := ⟨_, rfl⟩
  obtain ⟨M0, hM0⟩ : ∃ M0, newM n = M0 := ⟨_, rfl⟩
  rw [hP1] at CF CO hpw
  rw [hM0] at CN CF
  have PW := Lib.hid hpw
  obtain ⟨V2, hV2⟩ : ∃ V2, 0 + n + 1 + n + 1 = V2 := ⟨_, rfl⟩
  rw [hV2] at CO
  have HV := Lib.hid hV2
  clear q0 c0 ds hP1 hM0 hpw hV2 h1 h2 r1 r2 r3 hb0
  go_enter Tryz.func18, Tryz.ntmps18
  go_wp2_with (first
    | (go_at_call 34; refine CN.out.mono ?_; rintro e w1 ⟨gd, rfl, a1⟩
       have A1 := Lib.hid a1
       clear a1)
    | (go_at_call 35; refine (CF.out _ _ A1.out).mono ?_; rintro e w2 ⟨⟨ef, rfl⟩, a2⟩
       have A2 := Lib.hid a2
       clear a2)
    | (go_at_call 36; refine (CO.out _ _ A2.out).mono ?_; rintro e w3 ⟨g, gp, p, j, rfl, a3, b3, c3, _, _⟩
       have A3 := Lib.hid a3
       have B3 := Lib.hid b3
       have C3 := Lib.hid c3
       clear a3 b3 c3))
  go_ret2
  exact ⟨gd, g, gp, p, j, rfl, A3.out, by have := HV.out; exact B3.out.more (by omega), C3.out.trans PW.out⟩
end
end Go.Proofs.YtadagbkfemcgfaaGreat
