/-
  Own work. A commit's and a checkpoint's writes on a disk that may be armed: done, or what may stand there behind a Power. No walk.
-/
import Derived.Test.YtadagbkfemcgfaaCp
namespace Go.Proofs.Ytadagbkfemcgfaa
open Go.RowKit
set_option linter.unusedVariables false
set_option linter.unusedSimpArgs false

/-- What a disk with a journal shows. -/
structure LS (n W s t0 p0 r : Nat) (L : List (List Ch)) (f : Nat → List UInt8) : Prop where
  r1 : 8 ≤ r
  r2 : r ≤ 1024
  r3 : r + 10 ≤ n
  s1 : 1 ≤ s
  s2 : s ≤ W
  t1 : 1 ≤ t0
  t2 : t0 + L.length ≤ W
  pr : p0 < r
  an : f (s % 2) = anc s t0 p0 r
  ot : Oth s (f ((s + 1) % 2))
  us : usedL L ≤ r
  lg : LogAt f r t0 p0 L
  ok : ∀ l ∈ L, ChsOk (n - 2 - r) l ∧ l.length < r
  old : ∀ x, x < r → Old (t0 + L.length) (f (2 + x))
section
variable {p : Pt} {n W s t0 p0 r : Nat} {L : List (List Ch)} {f g : Nat → List UInt8} {Q : Nat → List UInt8 → Prop} {m : RM}
theorem DJ.ls (d : DJ p n W s t0 p0 r L f) : LS n W s t0 p0 r L f := ⟨d.r1, d.r2, d.r3, d.s1, d.s2, d.t1, d.t2, d.pr, d.an, d.ot, d.us, d.lg, d.ok, d.old⟩
theorem LS.dj (d : LS n W s t0 p0 r L f) (q : QP p n f W) (c : Calm p.m n) : DJ p n W s t0 p0 r L f := ⟨q, c, d.r1, d.r2, d.r3, d.s1, d.s2, d.t1, d.t2, d.pr, d.an, d.ot, d.us, d.lg, d.ok, d.old⟩
theorem LS.more {V : Nat} (d : LS n W s t0 p0 r L f) (h : W ≤ V) : LS n V s t0 p0 r L f := ⟨d.r1, d.r2, d.r3, d.s1, Nat.le_trans d.s2 h, d.t1, Nat.le_trans d.t2 h, d.pr, d.an, d.ot, d.us, d.lg, d.ok, d.old⟩
theorem rp_low {P r j x : Nat} (hx : x < 2) : x ≠ rp P r j := by unfold rp; omega
theorem rp_high {P r j i : Nat} (hr : 8 ≤ r) : 2 + r + i ≠ rp P r j := by
  have := Nat.mod_lt (P + j) (show 0 < r by omega)
  unfold rp
  omega
/-- Places behind the log turned: the log stands. -/
theorem LS.keep (d : LS n W s t0 p0 r L f) {k : Nat} (hk : usedL L + k ≤ r) (he : ∀ x, x < n → (∀ j, j < k → x ≠ rp ((p0 + usedL L) % r) r j) → g x = f x) (ho : ∀ j, j < k → Old (t0 + L.length) (g (rp ((p0 + usedL L) % r) r j))) :
    LS n W s t0 p0 r L g ∧ ∀ i, i < n - 2 - r → g (2 + r + i) = f (2 + r + i) := by
  have hr1 := d.r1
  have hr3 := d.r3
  have hpr := d.pr
  have hlow : ∀ x, x < 2 → g x = f x := fun x hx => he x (by omega) (fun j _ => rp_low hx)
  refine ⟨⟨hr1, d.r2, hr3, d.s1, d.s2, d.t1, d.t2, hpr, by rw [hlow _ (by omega)]; exact d.an, by rw [hlow _ (by omega)]; exact d.ot, d.us, ?_, d.ok, fun x hx => ?_⟩, fun i hi => he _ (by omega) (fun j _ => rp_high hr1)⟩
  · refine d.lg.congr fun i hi => he _ ?_ fun j hj hh => ?_
    · exact (rp_lt hr1 hr3).1
    · have e := rp_add p0 r (usedL L) j
      have hh2 : rp p0 r i = rp p0 r (usedL L + j) := hh.trans e
      have := rp_inj hpr (by omega) (by omega) hh2
      omega
  · by_cases hj : ∃ j, j < k ∧ 2 + x = rp ((p0 + usedL L) % r) r j
    · obtain ⟨j, hj1, hj2⟩ := hj
      rw [hj2]
      exact ho j hj1
    · rw [he _ (by omega) (fun j hj1 hj2 => hj ⟨j, hj1, hj2⟩)]
      exact d.old x hx
/-- One commit more. -/
theorem LS.snoc (d : LS n W s t0 p0 r L f) (hn2 : n ≤ 4096) (hW : W + 50 < 1073741824) {l : List Ch} (ok : ChsOk (n - 2 - r) l) (hl : l.length < r) (hu : usedL L + (l.length + 1) ≤ r)
    (he : ∀ x, x < n → (∀ j, j < l.length + 1 → x ≠ rp ((p0 + usedL L) % r) r j) → g x = f x) (hc : ComAt g r (t0 + L.length) ((p0 + usedL L) % r) l) :
    LS n (W + 42) s t0 p0 r (L ++ [l]) g ∧ ∀ i, i < n - 2 - r → g (2 + r + i) = f (2 + r + i) := by
  have hr1 := d.r1
  have hr3 := d.r3
  have hpr := d.pr
  have ht2 := d.t2
  have hlow : ∀ x, x < 2 → g x = f x := fun x hx => he x (by omega) (fun j _ => rp_low hx)
  refine ⟨⟨hr1, d.r2, hr3, d.s1, by have := d.s2; omega, d.t1, by rw [List.length_append]; show t0 + (L.length + 1) ≤ _; omega, hpr, by rw [hlow _ (by omega)]; exact d.an, by rw [hlow _ (by omega)]; exact d.ot, by rw [usedL_snoc]; exact hu, ?_, fun x hx => ?_, fun x hx => ?_⟩, fun i hi => he _ (by omega) (fun j _ => rp_high hr1)⟩
  · refine LogAt.snoc (d.lg.congr fun i hi => he _ (rp_lt hr1 hr3).1 fun j hj hh => ?_) hc hpr
    have e := rp_add p0 r (usedL L) j
    have hh2 : rp p0 r i = rp p0 r (usedL L + j) := hh.trans e
    have := rp_inj hpr (by omega) (by omega) hh2
    omega
  · rcases List.mem_append.1 hx with hx | hx
    · exact d.ok x hx
    · rw [List.mem_singleton] at hx
      subst hx
      exact ⟨ok, hl⟩
  · rw [List.length_append]
    show Old (t0 + (L.length + 1)) (g (2 + x))
    by_cases hj : ∃ j, j < l.length + 1 ∧ 2 + x = rp ((p0 + usedL L) % r) r j
    · obtain ⟨j, hj1, hj2⟩ := hj
      rw [hj2]
      cases j with
      | zero =>
        rw [show g (rp ((p0 + usedL L) % r) r 0) = hdr (t0 + L.length) l from hc.1]
        exact Old.hdr_ ok (by omega) (by omega) (by omega)
      | succ q =>
        obtain ⟨c, hc'⟩ : ∃ c, l[q]? = some c := ⟨_, List.getElem?_eq_getElem (by omega)⟩
        have e := hc.2 q c hc'
        rw [Nat.add_comm q 1, show g (rp ((p0 + usedL L) % r) r (1 + q)) = tagged c.data (t0 + L.length) from e]
        exact Old.tagged_ (ok.hm c (List.mem_of_getElem? hc')).2 _ _
    · rw [he _ (by omega) (fun j hj1 hj2 => hj ⟨j, hj1, hj2⟩)]
      exact (d.old x hx).mono (by omega)
/-! ### A commit's writes -/
/-- While the places are written: what is elder stays elder there. -/
def QA (f : Nat → List UInt8) (T P r k : Nat) (i : Nat) (v : List UInt8) : Prop := ((∀ j, j < k → i ≠ rp P r j) → v = f i) ∧ ((∃ j, j < k ∧ i = rp P r j) → Old T v)
theorem wr_qa {T P k j : Nat} (hj : j < k) {z : List UInt8} (hz : z.length = 512) (h7 : bt z 7 % 2 = 0) : Wr (QA f T P r k) (rp P r j) z :=
  ⟨⟨fun h => absurd rfl (h j hj), fun _ => .inl h7⟩, fun v q _ hv => ⟨fun h => absurd rfl (h j hj), fun hh => (hv.2 hh).tear hz h7 q⟩⟩
theorem stK_arm (q : AP p n f W) {F : Nat → List UInt8} (hW : W + 50 < 1073741824) (k : Mk) (hr : 8 ≤ k.ring) (hn : k.ring + 10 ≤ n) (hp : k.pos < k.ring) (l : List Ch) (h40 : l.length ≤ 40) (hl : l.length < k.ring) (hd : ∀ c ∈ l, c.data.length = 512)
    (hm : May p.m n (QA F k.turn k.pos k.ring (l.length + 1))) : ∀ i, i ≤ l.length →
    (∃ g, AP (stK p n k l i) n g (W + 1 + i) ∧ May (stK p n k l i).m n (QA F k.turn k.pos k.ring (l.length + 1)) ∧ g (rp k.pos k.ring 0) = zsec ∧ (∀ j c, j < i → l[j]? = some c → g (rp k.pos k.ring (1 + j)) = tagged c.data k.turn) ∧ ∀ x, (∀ j, j < i + 1 → x ≠ rp k.pos k.ring j) → g x = f x) ∨
      Dead (stK p n k l i) n (QA F k.turn k.pos k.ring (l.length + 1)) (W + 1 + i)
  | 0, _ => by
    rcases q.write (by omega) (i := rp k.pos k.ring 0) (rp_lt hr hn).1 zsec_len hm (wr_qa (by omega) zsec_len (by rw [zsec_bt])) with ⟨h1, h2⟩ | h1
    · exact .inl ⟨_, h1, h2, upd_same _ _ _, fun j c hj => absurd hj (by omega), fun x hx => upd_ne (hx 0 (by omega))⟩
    · exact .inr (h1.more (by omega))
  | i + 1, hi => by
    obtain ⟨c, hc⟩ : ∃ c, l[i]? = some c := ⟨_, List.getElem?_eq_getElem (by omega)⟩
    have hcd := hd c (List.mem_of_getElem? hc)
    have e := stK_succ p n k l i c hc
    rcases stK_arm q hW k hr hn hp l h40 hl hd hm i (by omega) with ⟨g, h1, h2, h0, h3, h4⟩ | h1
    · rcases h1.write (by omega) (i := rp k.pos k.ring (1 + i)) (rp_lt hr hn).1 (tagged_len hcd k.turn) h2 (wr_qa (by omega) (tagged_len hcd k.turn) (tagged_bt hcd _)) with ⟨h5, h6⟩ | h5
      · refine .inl ⟨upd g (rp k.pos k.ring (1 + i)) (tagged c.data k.turn), ?_, ?_, ?_, fun j c' hj hc' => ?_, fun x hx => ?_⟩
        · rw [e]
          exact h5
        · rw [e]
          exact h6
        · rw [upd_ne (fun hh => by have := rp_inj hp (by omega) (by omega) hh; omega)]
          exact h0
        · by_cases hji : j = i
          · subst hji
            rw [hc] at hc'
            injection hc' with hc'
            subst hc'
            exact upd_same _ _ _
          · rw [upd_ne (fun hh => hji (by have := rp_inj hp (by omega) (by omega) hh; omega))]
            exact h3 j c' (by omega) hc'
        · rw [upd_ne (by have := hx (1 + i) (by omega); exact this)]
          exact h4 x fun j hj => hx j (by omega)
      · refine .inr ?_
        rw [e]
        exact h5.more (by omega)
    · refine .inr ?_
      rw [e]
      have := h1.write (rp k.pos k.ring (1 + i)) (tagged c.data k.turn)
      unfold Mk.inRing Mk.ahead at *
      rw [show (((2 + (k.pos + (1 + i)) % k.ring : Nat)) : Int) = ((rp k.pos k.ring (1 + i) : Nat) : Int) from rfl, this]
      exact h1.more (by omega)
/-- While the header is written. -/
def QB (g : Nat → List UInt8) (x : Nat) (z : List UInt8) (i : Nat) (v : List UInt8) : Prop := (i ≠ x → v = g i) ∧ (i = x → v = z ∨ bt v 511 % 2 = 0)
theorem wr_qb {x : Nat} {z : List UInt8} (hz : z.length = 512) : Wr (QB g x z) x z := by
  refine ⟨⟨fun h => absurd rfl h, fun _ => .inl rfl⟩, fun v k hv hq => ⟨fun h => absurd rfl h, fun _ => ?_⟩⟩
  by_cases hk : 512 ≤ k
  · exact .inl (tearL_all hz hv hk)
  · rcases hq.2 rfl with h | h
    · rw [h]
      exact .inl (tearL_same z k)
    · refine .inr ?_
      rw [bt_tear hz k 511 (by omega), if_neg (by omega)]
      exact h
/-- What a list of Q's functions comes to. -/
def Fin (n : Nat) (Q : Nat → List UInt8 → Prop) (R : (Nat → List UInt8) → Prop) : Prop := ∀ g : Nat → List UInt8, (∀ i, i < n → Q i (g i) ∧ (g i).length = 512) → R g
theorem stP_crash (q : AP p n f W) (c : Calm p.m n) (d : LS n W s t0 p0 r L f) (hW : W + 50 < 1073741824) {l : List Ch} (ok : ChsOk (n - 2 - r) l) (hl : l.length < r) (hu : usedL L + (l.length + 1) ≤ r) :
    (∃ g, AP (stP p n ⟨s, t0 + L.length, (p0 + usedL L) % r, r⟩ l) n g (W + 42) ∧ Calm (stP p n ⟨s, t0 + L.length, (p0 + usedL L) % r, r⟩ l).m n ∧ LS n (W + 42) s t0 p0 r (L ++ [l]) g ∧ ∀ i, i < n - 2 - r → g (2 + r + i) = f (2 + r + i)) ∨
    (∃ Q, Dead (stP p n ⟨s, t0 + L.length, (p0 + usedL L) % r, r⟩ l) n Q (W + 42) ∧ Fin n Q (fun g => (LS n (W + 42) s t0 p0 r L g ∨ LS n (W + 42) s t0 p0 r (L ++ [l]) g) ∧ ∀ i, i < n - 2 - r → g (2 + r + i) = f (2 + r + i))) := by
  have hr1 := d.r1
  have hr3 := d.r3
  have hn2 := q.ok.n2
  have hP : (p0 + usedL L) % r < r := Nat.mod_lt _ (by omega)
  have hd : ∀ c ∈ l, c.data.length = 512 := fun c hc => (ok.hm c hc).2
  have hm : May p.m n (QA f (t0 + L.length) ((p0 + usedL L) % r) r (l.length + 1)) := (q.exact_ c).alive q.wy (fun i v hi hv => ⟨fun _ => hv, fun ⟨j, _, hj⟩ => by
    have h2 := (rp_lt (p := (p0 + usedL L) % r) (i := j) hr1 hr3).2
    rw [hv]
    obtain ⟨x, rfl⟩ : ∃ x, i = 2 + x := ⟨i - 2, by omega⟩
    exact d.old x (by omega)⟩)
  have finA : Fin n (QA f (t0 + L.length) ((p0 + usedL L) % r) r (l.length + 1)) (fun g => (LS n (W + 42) s t0 p0 r L g ∨ LS n (W + 42) s t0 p0 r (L ++ [l]) g) ∧ ∀ i, i < n - 2 - r → g (2 + r + i) = f (2 + r + i)) := fun g hg => by
    obtain ⟨h1, h2⟩ := d.keep (g := g) (k := l.length + 1) hu (fun x hx hj => (hg x hx).1.1 hj) (fun j hj => (hg _ (rp_lt hr1 hr3).1).1.2 ⟨j, hj, rfl⟩)
    exact ⟨.inl (h1.more (by omega)), h2⟩
  rcases stK_arm q hW ⟨s, t0 + L.length, (p0 + usedL L) % r, r⟩ hr1 hr3 hP l ok.n40 hl hd hm l.length (Nat.le_refl _) with ⟨g, h1, h2, h0, h3, h4⟩ | h1
  · have hl40 := ok.n40
    rcases h1.flush h2 with ⟨h5, h6⟩ | h5
    · have hm2 : May ((stK p n ⟨s, t0 + L.length, (p0 + usedL L) % r, r⟩ l l.length).fl n).m n (QB g (rp ((p0 + usedL L) % r) r 0) (hdr (t0 + L.length) l)) := (h5.exact_ h6).alive h5.wy (fun i v hi hv => ⟨fun _ => hv, fun hi2 => .inr (by
        have h0' : g (rp ((p0 + usedL L) % r) r 0) = zsec := h0
        rw [hv, hi2, h0', zsec_bt])⟩)
      have finB : Fin n (QB g (rp ((p0 + usedL L) % r) r 0) (hdr (t0 + L.length) l)) (fun g => (LS n (W + 42) s t0 p0 r L g ∨ LS n (W + 42) s t0 p0 r (L ++ [l]) g) ∧ ∀ i, i < n - 2 - r → g (2 + r + i) = f (2 + r + i)) := fun g' hg => by
        have hne : ∀ x, x < n → x ≠ rp ((p0 + usedL L) % r) r 0 → g' x = g x := fun x hx h => (hg x hx).1.1 h
        have hout : ∀ x, x < n → (∀ j, j < l.length + 1 → x ≠ rp ((p0 + usedL L) % r) r j) → g' x = f x := fun x hx hj => (hne x hx (hj 0 (by omega))).trans (h4 x hj)
        have hdat : ∀ j c, l[j]? = some c → g' (rp ((p0 + usedL L) % r) r (1 + j)) = tagged c.data (t0 + L.length) := fun j c hc => by
          have hj := (List.getElem?_eq_some_iff.1 hc).1
          rw [hne _ (rp_lt hr1 hr3).1 (fun hh => by have := rp_inj hP (by omega) (by omega) hh; omega)]
          exact h3 j c hj hc
        rcases (hg _ (rp_lt (p := (p0 + usedL L) % r) (i := 0) hr1 hr3).1).1.2 rfl with hz | hz
        · obtain ⟨a1, a2⟩ := d.snoc (g := g') hn2 hW ok hl hu hout ⟨hz, hdat⟩
          exact ⟨.inr a1, a2⟩
        · obtain ⟨a1, a2⟩ := d.keep (g := g') (k := l.length + 1) hu hout (fun j hj => by
            cases j with
            | zero => exact .inr (.inl hz)
            | succ j =>
              obtain ⟨c, hc⟩ : ∃ c, l[j]? = some c := ⟨_, List.getElem?_eq_getElem (by omega)⟩
              rw [Nat.add_comm j 1, hdat j c hc]
              exact Old.tagged_ (hd c (List.mem_of_getElem? hc)) _ _)
          exact ⟨.inl (a1.more (by omega)), a2⟩
      rcases h5.write (by omega) (i := rp ((p0 + usedL L) % r) r 0) (rp_lt hr1 hr3).1 (hdr_len (t0 + L.length) l hl40) hm2 (wr_qb (hdr_len _ _ hl40)) with ⟨h7, h8⟩ | h7
      · rcases h7.flush h8 with ⟨h9, h10⟩ | h9
        · refine .inl ⟨_, h9.more (by omega), h10, ?_⟩
          exact d.snoc hn2 hW ok hl hu (fun x hx hj => by rw [upd_ne (hj 0 (by omega))]; exact h4 x hj) ⟨upd_same _ _ _, fun j c hc => by
            have hj := (List.getElem?_eq_some_iff.1 hc).1
            rw [upd_ne (fun hh => by have := rp_inj hP (by omega) (by omega) hh; omega)]
            exact h3 j c hj hc⟩
        · exact .inr ⟨_, h9.more (by omega), finB⟩
      · have e := h7.flush
        refine .inr ⟨_, ?_, finB⟩
        show Dead (((((stK p n ⟨s, t0 + L.length, (p0 + usedL L) % r, r⟩ l l.length).fl n).wr n (rp ((p0 + usedL L) % r) r 0 : Nat) (hdr (t0 + L.length) l))).fl n) n _ _
        rw [e]
        exact h7.more (by omega)
    · have e1 := h5.write (rp ((p0 + usedL L) % r) r 0 : Nat) (hdr (t0 + L.length) l)
      refine .inr ⟨_, ?_, finA⟩
      show Dead (((((stK p n ⟨s, t0 + L.length, (p0 + usedL L) % r, r⟩ l l.length).fl n).wr n (rp ((p0 + usedL L) % r) r 0 : Nat) (hdr (t0 + L.length) l))).fl n) n _ _
      rw [e1, h5.flush]
      exact h5.more (by omega)
  · have hl40 := ok.n40
    have e0 := h1.flush
    have e1 := h1.write (rp ((p0 + usedL L) % r) r 0 : Nat) (hdr (t0 + L.length) l)
    refine .inr ⟨_, ?_, finA⟩
    show Dead (((((stK p n ⟨s, t0 + L.length, (p0 + usedL L) % r, r⟩ l l.length).fl n).wr n (rp ((p0 + usedL L) % r) r 0 : Nat) (hdr (t0 + L.length) l))).fl n) n _ _
    rw [e0, e1, e0]
    exact h1.more (by omega)
/-! ### A checkpoint's writes -/
theorem cpK_arm (j : JM) (hr : j.k.ring + 10 ≤ n) : ∀ (is : List Nat) (p : Pt) (f : Nat → List UInt8) (W : Nat), AP p n f W → May p.m n Q → W + is.length < 1073741824 → (∀ i ∈ is, i < n - 2 - j.k.ring ∧ (j.fresh.getD i emp).size = 512) → (∀ i ∈ is, Wr Q (2 + j.k.ring + i) (lst (j.fresh.getD i emp))) →
    (∃ g, AP (cpK p n j is) n g (W + is.length) ∧ May (cpK p n j is).m n Q ∧ (∀ i ∈ is, g (2 + j.k.ring + i) = lst (j.fresh.getD i emp)) ∧ ∀ x, (∀ i ∈ is, x ≠ 2 + j.k.ring + i) → g x = f x) ∨ Dead (cpK p n j is) n Q (W + is.length)
  | [], p, f, W, q, hm, _, _, _ => .inl ⟨f, q, hm, fun i hi => absurd hi (by simp), fun x _ => rfl⟩
  | i :: is, p, f, W, q, hm, hW, hi, hw => by
    rw [List.length_cons] at hW ⊢
    obtain ⟨i1, i2⟩ := hi i (by simp)
    have dead : ∀ (is : List Nat) (p : Pt) (V : Nat), Dead p n Q V → cpK p n j is = p := by
      intro is
      induction is with
      | nil => intro p V _; rfl
      | cons x is ih =>
        intro p V hd
        show cpK (p.wr n (j.k.atHome x : Nat) (lst (j.fresh.getD x emp))) n j is = p
        rw [hd.write]
        exact ih p V hd
    rcases q.write (by omega) (i := 2 + j.k.ring + i) (by omega) (s := lst (j.fresh.getD i emp)) i2 hm (hw i (by simp)) with ⟨h1, h1m⟩ | h1
    · rcases cpK_arm j hr is _ _ (W + 1) h1 h1m (by omega) (fun x hx => hi x (by simp [hx])) (fun x hx => hw x (by simp [hx])) with ⟨g, h2, h2m, h3, h4⟩ | h2
      · refine .inl ⟨g, ?_, h2m, fun x hx => ?_, fun x hx => ?_⟩
        · rw [show W + (is.length + 1) = W + 1 + is.length by omega]
          exact h2
        · by_cases hmm : x ∈ is
          · exact h3 x hmm
          · have hxi : x = i := by
              rcases List.mem_cons.1 hx with h | h
              · exact h
              · exact absurd h hmm
            subst hxi
            rw [h4 _ (fun y hy hh => hmm (by have : x = y := by omega
                                             rw [this]; exact hy))]
            exact upd_same _ _ _
        · rw [h4 x (fun y hy => hx y (by simp [hy]))]
          exact upd_ne (hx i (by simp))
      · exact .inr (h2.more (by omega))
    · refine .inr ?_
      show Dead (cpK (p.wr n (j.k.atHome i : Nat) (lst (j.fresh.getD i emp))) n j is) n Q _
      have hd : Dead (p.wr n (j.k.atHome i : Nat) (lst (j.fresh.getD i emp))) n Q W := h1
      rw [dead is _ _ hd]
      exact hd.more (by omega)
end
end Go.Proofs.Ytadagbkfemcgfaa
