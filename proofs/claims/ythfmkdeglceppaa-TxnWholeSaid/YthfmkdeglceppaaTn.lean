/-
  Own work. A transaction's small functions; Abort.
-/
import Derived.Test.YthfmkdeglceppaaTm
import Derived.Defers
namespace Go.Proofs.Ythfmkdeglceppaa
open Go.RowKit Go.Maps
set_option linter.unusedVariables false
set_option linter.unusedSimpArgs false

theorem infoTx : (Try.prog.info? 74).map (·.size) = some 3 := by kernel_rfl
/-- A finished transaction: none, or a zero one. -/
def TN (w : World) (v : Value) : Prop := v = .pointer none ∨ ∃ gt, v = .pointer (some ⟨gt, 0, none⟩) ∧ TZ w gt
section
variable {w w' : World} {gt g gd gp T h q n : Nat} {ws : List ByteArray} {M S B : Nat → Prop} {v : Value} {Z : DK} {w0 : World} {p : Pt} {j : JM}
theorem TN.only (a : TN w v) (ho : Only S w w') (hS : ∀ gt, v = .pointer (some ⟨gt, 0, none⟩) → ¬ S gt) : TN w' v := by
  rcases a with e | ⟨gt, e, z⟩
  · exact .inl e
  · exact .inr ⟨gt, e, z.only ho (hS gt e)⟩
theorem TN.below (a : TN w v) (hb : Below w.heap.size w w') : TN w' v := a.only (Only.of_below (S := fun _ => False) hb (Nat.le_refl _)) (fun _ _ h => h)
theorem TO.cells (a : TO w gt g T h q ws M) : ∃ gm, w.cell? ⟨gt, 0, none⟩ = some (.pointer (some ⟨g, 0, none⟩)) ∧ w.cell? ⟨gt, 1, none⟩ = some (.int .u64 (T : Int)) ∧ w.cell? ⟨gt, 2, none⟩ = some (.map (some gm)) ∧ TV w gm h q ws M ∧ w.heap[gt]? = some (.cells (txC g T gm) 74 (0, 0)) := by
  obtain ⟨⟨gm, h1, v⟩, _, _⟩ := a
  exact ⟨gm, cell_of_row w gt 0 _ _ (0, 0) h1, cell_of_row w gt 1 _ _ (0, 0) h1, cell_of_row w gt 2 _ _ (0, 0) h1, v, h1⟩
set_option maxRecDepth 100000 in
theorem tfin_any (a : TO w gt g T h q ws M) : Calls Try.prog 61 #[.pointer (some ⟨gt, 0, none⟩)] w (RetW w (.bool false)) := by
  obtain ⟨gm, c0, _⟩ := a.cells
  clear a
  go_enter Try.func61, Try.ntmps61
  go_wp2_with fail
  go_ret
  exact ⟨rfl, rfl⟩
set_option maxRecDepth 100000 in
theorem tfin_no (a : TN w v) : Calls Try.prog 61 #[v] w (RetW w (.bool true)) := by
  rcases a with rfl | ⟨gt, rfl, z⟩
  · go_enter Try.func61, Try.ntmps61
    go_wp2_with fail
    go_ret
    exact ⟨rfl, rfl⟩
  · have c0 : w.cell? ⟨gt, 0, none⟩ = some (.pointer none) := cell_of_row w gt 0 _ _ (0, 0) z
    clear z
    go_enter Try.func61, Try.ntmps61
    go_wp2_with fail
    go_ret
    exact ⟨rfl, rfl⟩
set_option maxRecDepth 100000 in
theorem thomes_no (a : TN w v) : Calls Try.prog 32 #[v] w (RetW w (.int .i64 0)) := by
  have C := Lib.hid (tfin_no a)
  clear a
  go_enter Try.func32, Try.ntmps32
  go_wp2_with (go_at_call 61; refine C.out.mono ?_; rintro e w1 ⟨rfl, rfl⟩)
  go_ret
  exact ⟨rfl, rfl⟩
set_option maxRecDepth 100000 in
theorem ttouch_no (a : TN w v) : Calls Try.prog 35 #[v] w (RetW w (.int .i64 0)) := by
  have C := Lib.hid (tfin_no a)
  clear a
  go_enter Try.func35, Try.ntmps35
  go_wp2_with (go_at_call 61; refine C.out.mono ?_; rintro e w1 ⟨rfl, rfl⟩)
  go_ret
  exact ⟨rfl, rfl⟩
set_option maxRecDepth 100000 in
theorem tread_no (a : TN w v) (i : Int) : Calls Try.prog 36 #[v, .int .i64 i] w (RetW w (.tuple #[.slice none 0 0, .int .i64 5])) := by
  have C := Lib.hid (tfin_no a)
  clear a
  go_enter Try.func36, Try.ntmps36
  go_wp2_with (go_at_call 61; refine C.out.mono ?_; rintro e w1 ⟨rfl, rfl⟩)
  go_ret2
  exact ⟨rfl, rfl⟩
set_option maxRecDepth 100000 in
theorem twrite_no (a : TN w v) (i : Int) (b : Value) : Calls Try.prog 33 #[v, .int .i64 i, b] w (RetW w (.int .i64 5)) := by
  have C := Lib.hid (tfin_no a)
  clear a
  go_enter Try.func33, Try.ntmps33
  go_wp2_with (go_at_call 61; refine C.out.mono ?_; rintro e w1 ⟨rfl, rfl⟩)
  go_ret
  exact ⟨rfl, rfl⟩
set_option maxRecDepth 100000 in
theorem tcommit_no (a : TN w v) : Calls Try.prog 34 #[v] w (RetW w (.int .i64 5)) := by
  have C := Lib.hid (tfin_no a)
  clear a
  go_enter Try.func34, Try.ntmps34
  go_wp2_with (go_at_call 61; refine C.out.mono ?_; rintro e w1 ⟨rfl, rfl⟩)
  go_ret
  exact ⟨rfl, rfl⟩
set_option maxRecDepth 100000 in
theorem thomes_any (a : TO w gt g T h q ws M) (u : UpB Z w0 w g gd gp n p j B) (ok : p.m.Ok n) : Calls Try.prog 32 #[.pointer (some ⟨gt, 0, none⟩)] w (RetV2 w (.int .i64 (j.homes n : Nat))) := by
  have C := Lib.hid (tfin_any a)
  have CH := Lib.hid (u.homesC ok)
  obtain ⟨gm, c0, _⟩ := a.cells
  clear a u ok
  go_enter Try.func32, Try.ntmps32
  go_wp2_with (first
    | (go_at_call 61; refine C.out.mono ?_; rintro e w1 ⟨rfl, rfl⟩)
    | (go_at_call 38; refine CH.out.mono ?_; rintro e w2 ⟨rfl, b2⟩
       have B2 := Lib.hid b2
       clear b2))
  go_ret
  exact ⟨rfl, B2.out⟩
/-- What stands behind an Abort. -/
def RetA (w : World) (gt : Nat) (e : Ending) (w' : World) : Prop := e = .returned (.tuple #[]) ∧ TZ w' gt ∧ Only (fun k => k = gt) w w'
def txZ : List Value := [Value.pointer none, Value.int .u64 0, Value.map none]
theorem tz_store {cur : Array Value} (hg : w.heap[gt]? = some (.cells cur 74 (0, 0))) (hs : cur.size = 3) : TZ (w.setRow gt (cur.toList.take 0 ++ txZ ++ cur.toList.drop (0 + 3)).toArray) gt := by
  have h1 := setRow_heap w gt _ (cur.toList.take 0 ++ txZ ++ cur.toList.drop (0 + 3)).toArray _ _ hg
  have e : (cur.toList.take 0 ++ txZ ++ cur.toList.drop (0 + 3)).toArray = #[Value.pointer none, Value.int .u64 0, Value.map none] := by
    have hd : cur.toList.drop (0 + 3) = [] := List.drop_eq_nil_of_le (by rw [Array.length_toList]; omega)
    rw [hd]
    rfl
  unfold TZ
  rw [h1, e]
set_option maxRecDepth 100000 in
theorem tabort_row (cur : Array Value) (hg : w.heap[gt]? = some (.cells cur 74 (0, 0))) (hs : cur.size = 3) : Calls Try.prog 37 #[.pointer (some ⟨gt, 0, none⟩)] w (RetA w gt) := by
  have HG := Lib.hid hg
  have HS := Lib.hid hs
  clear hg hs
  go_enter Try.func37, Try.ntmps37
  go_wp2_with (first
    | (refine wpList_store_partL rfl 74 (.tmp 6) (.tmp 5) rfl gt 0 txZ.toArray rfl rfl 74 cur HG.out infoTx (by have := HS.out; show 0 + 3 ≤ cur.size; omega) (by intro v hv; simp [txZ] at hv; rcases hv with rfl | rfl | rfl <;> rfl) ?_))
  go_end0
  exact ⟨rfl, tz_store HG.out HS.out, (Only.refl (fun k => k = gt) w).setRow rfl _⟩
end
end Go.Proofs.Ythfmkdeglceppaa
