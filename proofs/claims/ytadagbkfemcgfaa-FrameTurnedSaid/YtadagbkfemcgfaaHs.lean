/-
  Own work. A hash in memory; whether it is none.
-/
import Derived.Test.YtadagbkfemcgfaaEq
import Derived.Test.YtadagbkfemcgfaaSt
namespace Go.Proofs.Ytadagbkfemcgfaa
open Go.RowKit
set_option linter.unusedVariables false

/-- The cells of a hash: the state, the block, the number of bytes. -/
def hashV (s : List Nat) (b : List UInt8) (n : Nat) : List Value := (s.map fun (x : Nat) => Value.int .u32 (x : Int)) ++ (cellsB b ++ [.int .u64 (n : Int)])
def hashL (s : List Nat) (b : List UInt8) (n : Nat) : List Lit := ((s.map fun (x : Nat) => (x : Int)).map (Lit.int .u32)) ++ ((b.map fun x => (x.toNat : Int)).map (Lit.int .u8) ++ [.int .u64 (n : Int)])
theorem hashV_len (s : List Nat) (b : List UInt8) (n : Nat) (hs : s.length = 8) (hb : b.length = 64) : (hashV s b n).length = 73 := by simp [hashV, cellsB, hs, hb]
theorem words_ints (s : List Nat) : (s.map fun (x : Nat) => Value.int .u32 (x : Int)) = (s.map fun (x : Nat) => (x : Int)).map (Value.int .u32) := by simp
theorem wf_u32 (s : List Nat) (hs : Small s) : ∀ z ∈ s.map (fun (x : Nat) => (x : Int)), (Lit.int .u32 z).wf = true := by
  intro z hz
  obtain ⟨x, hx, rfl⟩ := List.mem_map.1 hz
  have := hs x hx
  have hm : IntKind.u32.min = 0 := rfl
  have hM : IntKind.u32.max = 4294967295 := rfl
  simp [Lit.wf, hm, hM]
  omega
theorem keyLits_hash (s : List Nat) (b : List UInt8) (n : Nat) (hs : s.length = 8) (ss : Small s) (hb : b.length = 64) (hn : n < 18446744073709551616) (d : Nat) :
    Try.prog.keyLits (d + 3) 156 (hashV s b n) = some (hashL s b n) := by
  have k1 : Try.prog.keyLits (d + 2) 151 (s.map fun (x : Nat) => Value.int .u32 (x : Int)) = some ((s.map fun (x : Nat) => (x : Int)).map (Lit.int .u32)) := by
    rw [words_ints]
    exact keyLits_ints Try.underlying151 Try.underlying92 (by kernel_rfl) (by kernel_rfl) _ (by simp [hs]) (wf_u32 s ss) d
  have k2 : Try.prog.keyLits (d + 2) 154 (cellsB b) = some ((b.map fun x => (x.toNat : Int)).map (Lit.int .u8)) := by
    rw [bytes_ints]
    exact keyLits_ints Try.underlying154 Try.underlying5 (by kernel_rfl) (by kernel_rfl) _ (by simp [hb]) (wf_u8 b) d
  have k3 : Try.prog.keyLits (d + 2) 65 [.int .u64 (n : Int)] = some [.int .u64 (n : Int)] := by
    unfold Program.keyLits
    simp only [Try.underlying65]
    have : (Lit.int .u64 (n : Int)).wf = true := by
      have hm : IntKind.u64.min = 0 := rfl
      have hM : IntKind.u64.max = 18446744073709551615 := rfl
      simp [Lit.wf, hm, hM]; omega
    simp [this]
  have c1 : Try.prog.cellsOf 151 = 8 := by kernel_rfl
  have c2 : Try.prog.cellsOf 154 = 64 := by kernel_rfl
  have c3 : Try.prog.cellsOf 65 = 1 := by kernel_rfl
  have c4 : Try.prog.cellsOf 156 = 73 := by kernel_rfl
  have t1 : ((hashV s b n).drop 0).take 8 = s.map fun (x : Nat) => Value.int .u32 (x : Int) := by
    unfold hashV
    rw [List.drop_zero, List.take_append_of_le_length (by simp [hs]), List.take_of_length_le (by simp [hs])]
  have t2 : ((hashV s b n).drop 8).take 64 = cellsB b := by
    unfold hashV
    rw [List.drop_append_of_le_length (by simp [hs]), List.drop_of_length_le (by simp [hs]), List.nil_append, List.take_append_of_le_length (by simp [cellsB, hb]), List.take_of_length_le (by simp [cellsB, hb])]
  have t3 : ((hashV s b n).drop 72).take 1 = [.int .u64 (n : Int)] := by
    unfold hashV
    rw [← List.append_assoc, List.drop_append_of_le_length (by simp [cellsB, hs, hb]), List.drop_of_length_le (by simp [cellsB, hs, hb])]
    rfl
  unfold Program.keyLits
  simp only [Try.underlying156]
  rw [if_pos ⟨by rw [hashV_len s b n hs hb, c4], by kernel_rfl⟩]
  simp only [List.mapM_cons, List.mapM_nil, c1, c2, c3, t1, t2, t3, k1, k2, k3]
  simp [hashL]

/-- What '==' says of two hashes. -/
theorem eql_hash (s s' : List Nat) (b b' : List UInt8) (n n' : Nat) (hs : s.length = 8) (ss : Small s) (hb : b.length = 64) (hn : n < 18446744073709551616) (hs' : s'.length = 8) (ss' : Small s') (hb' : b'.length = 64) (hn' : n' < 18446744073709551616) (w : World) :
    ∃ r : Bool, (binOp .eql 156 (.agg (hashV s b n).toArray) (.agg (hashV s' b' n').toArray)).run Try.prog w = .ok (.bool r) w ∧ (r = true ↔ hashL s b n = hashL s' b' n') := by
  have c4 : Try.prog.cellsOf 156 = 73 := by kernel_rfl
  have fm : ∀ (s : List Nat) (b : List UInt8) (n : Nat), s.length = 8 → b.length = 64 → (Value.agg (hashV s b n).toArray).formed Try.prog 156 = true := by
    intro s b n h1 h2
    have h3 : (hashV s b n).toArray.size = 73 := by rw [List.size_toArray]; exact hashV_len s b n h1 h2
    unfold Value.formed
    simp only [Try.underlying156, h3, c4]
    rfl
  obtain ⟨r, hr, hiff⟩ := run_equalIn_deep (P := Try.prog) 9997 3 156 (by kernel_rfl) w 3 3 (.agg (hashV s b n).toArray) (.agg (hashV s' b' n').toArray) _ _ (fm s b n hs hb) (fm s' b' n' hs' hb')
    (keyLits_hash s b n hs ss hb hn 0) (keyLits_hash s' b' n' hs' ss' hb' hn' 0)
  have he2 : (Op.equal 156 (.agg (hashV s b n).toArray) (.agg (hashV s' b' n').toArray)).run Try.prog w = .ok r w := hr
  exact ⟨r, by simp only [binOp, Sem.run_bind, he2, Result.andThen_ok, Sem.run_pure], hiff⟩
theorem small_zero (n : Nat) : Small (List.replicate n 0) := by
  intro x hx
  have := List.eq_of_mem_replicate hx
  omega
/-- Is a hash none? Not if its number of bytes, or the first word of its state, is not 0. -/
theorem eql_live (s : List Nat) (b : List UInt8) (n : Nat) (hs : s.length = 8) (ss : Small s) (hb : b.length = 64) (hn : n < 18446744073709551616) (h : 0 < n ∨ s ≠ List.replicate 8 0) (w : World) :
    (binOp .eql 156 (.agg (hashV s b n).toArray) (.agg (hashV (List.replicate 8 0) (List.replicate 64 0) 0).toArray)).run Try.prog w = .ok (.bool false) w := by
  obtain ⟨r, hr, hiff⟩ := eql_hash s (List.replicate 8 0) b (List.replicate 64 0) n 0 hs ss hb hn (by simp) (small_zero 8) (by simp) (by omega) w
  have hne : r = false := by
    rw [← Bool.not_eq_true, hiff]
    intro he
    unfold hashL at he
    have e1 := List.append_inj he (by simp [hs])
    have e2 := List.append_inj e1.2 (by simp [hb])
    rcases h with h | h
    · have := e2.2
      simp at this
      omega
    · apply h
      have := congrArg (List.map fun l => match l with | Lit.int _ z => z.toNat | _ => 0) e1.1
      simpa [List.map_map, Function.comp_def] using this
  rw [hr, hne]
theorem eql_none (w : World) :
    (binOp .eql 156 (.agg (hashV (List.replicate 8 0) (List.replicate 64 0) 0).toArray) (.agg (hashV (List.replicate 8 0) (List.replicate 64 0) 0).toArray)).run Try.prog w = .ok (.bool true) w := by
  obtain ⟨r, hr, hiff⟩ := eql_hash (List.replicate 8 0) (List.replicate 8 0) (List.replicate 64 0) (List.replicate 64 0) 0 0 (by simp) (small_zero 8) (by simp) (by omega) (by simp) (small_zero 8) (by simp) (by omega) w
  rw [hr, hiff.2 rfl]
theorem guard_hash (xs ys : Array Value) (x y : Operand) (w : World) : (eqGuard .eql 156 x y (.agg xs) (.agg ys)).run Try.prog w = .ok () w := by
  unfold eqGuard
  simp
theorem builtHash : Try.prog.built 156 [] = some (hashV (List.replicate 8 0) (List.replicate 64 0) 0).toArray := by kernel_rfl
theorem infoHash : (Try.prog.info? 156).map (·.size) = some 73 := by kernel_rfl

/-- A hash at the head of block g. -/
def HashW (w : World) (g : Nat) (s : List Nat) (b : List UInt8) (n : Nat) : Prop :=
  w.heap[g]? = some (.cells (hashV s b n).toArray 156 (0, 0)) ∧ s.length = 8 ∧ Small s ∧ b.length = 64
theorem HashW.load {w : World} {g n : Nat} {s : List Nat} {b : List UInt8} (h : HashW w g s b n) : (loadVar 156 ⟨g, 0, none⟩).run Try.prog w = .ok (.agg (hashV s b n).toArray) w :=
  run_loadVar_row w g _ 156 _ (0, 0) _ h.1 Try.underlying156 rfl (by rw [List.size_toArray, hashV_len s b n h.2.1 h.2.2.2]; exact infoHash)

theorem isNone_nil (w : World) : Calls Try.prog 103 #[.pointer none] w fun e w' => e = .returned (.bool true) ∧ w = w' := by
  go_enter Try.func103, Try.ntmps103
  go_wp2_with fail
  go_ret
  exact ⟨rfl, rfl⟩
set_option maxRecDepth 100000 in
theorem isNone_live (g n : Nat) (s : List Nat) (b : List UInt8) (w : World) (h : HashW w g s b n) (hn : n < 18446744073709551616) (hl : 0 < n ∨ s ≠ List.replicate 8 0) :
    Calls Try.prog 103 #[.pointer (some ⟨g, 0, none⟩)] w fun e w' => e = .returned (.bool false) ∧ w = w' := by
  have q1 := h.load
  have q2 := eql_live s b n h.2.1 h.2.2.1 h.2.2.2 hn hl w
  have q3 := guard_hash (hashV s b n).toArray (hashV (List.replicate 8 0) (List.replicate 64 0) 0).toArray
  generalize (hashV s b n).toArray = V at q1 q2 q3
  generalize hZ : (hashV (List.replicate 8 0) (List.replicate 64 0) 0).toArray = Z at q2 q3
  have q4 : Try.prog.built 156 [] = some Z := by rw [← hZ]; exact builtHash
  have Q1 := Lib.hid q1
  have Q2 := Lib.hid q2
  have Q3 := Lib.hid q3
  have Q4 := Lib.hid q4
  clear h hn hl q1 q2 q3 q4 hZ
  go_enter Try.func103, Try.ntmps103
  go_wp2_with (first
    | (refine wpList_load_rowG rfl 156 (.tmp 7) rfl g rfl (.agg V) Q1.out ?_)
    | (refine wpList_buildG rfl 156 rfl Z Q4.out ?_)
    | (refine wpList_eqlG rfl 156 156 (.tmp 8) (.tmp 9) rfl (.agg V) (.agg Z) false rfl rfl (Q3.out _ _ _) Q2.out ?_))
  go_ret
  exact ⟨rfl, rfl⟩
set_option maxRecDepth 100000 in
theorem isNone_zero (g : Nat) (w : World) (h : HashW w g (List.replicate 8 0) (List.replicate 64 0) 0) :
    Calls Try.prog 103 #[.pointer (some ⟨g, 0, none⟩)] w fun e w' => e = .returned (.bool true) ∧ w = w' := by
  have q1 := h.load
  have q2 := eql_none w
  have q3 := guard_hash (hashV (List.replicate 8 0) (List.replicate 64 0) 0).toArray (hashV (List.replicate 8 0) (List.replicate 64 0) 0).toArray
  generalize hZ : (hashV (List.replicate 8 0) (List.replicate 64 0) 0).toArray = Z at q1 q2 q3
  have q4 : Try.prog.built 156 [] = some Z := by rw [← hZ]; exact builtHash
  have Q1 := Lib.hid q1
  have Q2 := Lib.hid q2
  have Q3 := Lib.hid q3
  have Q4 := Lib.hid q4
  clear h q1 q2 q3 q4 hZ
  go_enter Try.func103, Try.ntmps103
  go_wp2_with (first
    | (refine wpList_load_rowG rfl 156 (.tmp 7) rfl g rfl (.agg Z) Q1.out ?_)
    | (refine wpList_buildG rfl 156 rfl Z Q4.out ?_)
    | (refine wpList_eqlG rfl 156 156 (.tmp 8) (.tmp 9) rfl (.agg Z) (.agg Z) true rfl rfl (Q3.out _ _ _) Q2.out ?_))
  go_ret
  exact ⟨rfl, rfl⟩
end Go.Proofs.Ytadagbkfemcgfaa
