/- table: what a nil Table answers. -/
import Derived.Test.YtipgjpmaflcpkaaTeDX
set_option maxRecDepth 100000
namespace Go.Proofs.Ytipgjpmaflcpkaa
open Go.RowKit Go.Shelf
attribute [local go_sem] Oper.semAt_some
abbrev tN : Value := .pointer none
theorem put_nil (k : List UInt8) (v : Int) (w : World) : Calls Try.prog 11 #[tN, strT k, .int .i64 v] w fun e w' => e = .returned (.int .i64 6) ∧ w = w' := by
  go_enter Try.func11, Try.ntmps11
  go_wp2_with fail
  go_ret
  exact ⟨rfl, rfl⟩
theorem set_nil (k : List UInt8) (v : Int) (w : World) : Calls Try.prog 14 #[tN, strT k, .int .i64 v] w fun e w' => e = .returned (.int .i64 6) ∧ w = w' := by
  go_enter Try.func14, Try.ntmps14
  go_wp2_with fail
  refine (find_nil (strT k) w).mono ?_
  rintro e w1 ⟨rfl, rfl⟩
  go_wp2_with fail
  go_ret
  exact ⟨rfl, rfl⟩
theorem drop_nil (k : List UInt8) (w : World) : Calls Try.prog 16 #[tN, strT k] w fun e w' => e = .returned (.int .i64 6) ∧ w = w' := by
  go_enter Try.func16, Try.ntmps16
  go_wp2_with fail
  refine (find_nil (strT k) w).mono ?_
  rintro e w1 ⟨rfl, rfl⟩
  go_wp2_with fail
  go_ret
  exact ⟨rfl, rfl⟩
theorem renew_nil (k : List UInt8) (w : World) : Calls Try.prog 12 #[tN, strT k] w fun e w' => e = .returned (.int .i64 6) ∧ w = w' := by
  go_enter Try.func12, Try.ntmps12
  go_wp2_with fail
  refine (find_nil (strT k) w).mono ?_
  rintro e w1 ⟨rfl, rfl⟩
  go_wp2_with fail
  go_ret
  exact ⟨rfl, rfl⟩
theorem get_nil (k : List UInt8) (w : World) : Calls Try.prog 26 #[tN, strT k] w fun e w' => e = .returned (.tuple #[.int .i64 0, .bool false]) ∧ w = w' := by
  go_enter Try.func26, Try.ntmps26
  go_wp2_with fail
  refine (find_nil (strT k) w).mono ?_
  rintro e w1 ⟨rfl, rfl⟩
  go_wp2_with fail
  refine bodyPost_ret (v := .tuple #[.int .i64 0, .bool false]) (by simp [results, Try.results26, go_sem]) rfl ⟨rfl, rfl⟩
theorem list_nil (w : World) : Calls Try.prog 31 #[tN] w fun e w' => e = .returned (.slice none 0 0) ∧ w = w' := by
  go_enter Try.func31, Try.ntmps31
  go_wp2_with fail
  go_ret
  exact ⟨rfl, rfl⟩
theorem all_nil (w : World) : Calls Try.prog 10 #[tN] w fun e w' => e = .returned (.func (.func aF) #[] #[.pointer (some ⟨w.heap.size, 0, none⟩)]) ∧ w' = w.alloc (.cells #[tN] 24) := by
  have hmf : ∀ (fn : Fn) (first cap : Array Value) (w : World), (Instr.makeFunc fn first cap).run Try.prog w = .ok (.func fn first cap) w := fun _ _ _ _ => rfl
  go_enter Try.func10, Try.ntmps10
  go_wp2_with fail
  go_ret
  exact ⟨rfl, rfl⟩
set_option maxHeartbeats 2000000 in
theorem all1_nil (d : Nat) (hd0 : 1 ≤ d) (Bt : Nat) (w : World) (Kp : World → World → Prop) (hbx : Boxed w Bt 24 tN) :
    SeqG Fence.wide d Try.prog aF #[.pointer (some ⟨Bt, 0, none⟩)] (fun x : List UInt8 × VT => #[strT x.1, vv x.2]) StR Kp (fun _ pre x _ => pre ++ [x] <+: []) (fun ys => ys = []) (fun _ => True) w := by
  intro l J Jx W hW hIn hJ hJx hY h0
  clear hIn hJx hY
  have hB : Boxed W Bt 24 tN := (hW.block _ hbx.lt).trans hbx
  have hc := hB.cell
  have hct := (callsIn_wide (n := d - 1)).2 (list_nil W)
  refine callsIn_of_wp Try.func30 rfl trivial ?_ rfl
  simp only [Try.ntmps30, List.size_toArray, List.length_cons, List.length_nil, Nat.reduceAdd, Nat.reduceSub, Array.replicate_succ, Array.replicate_zero, List.push_toArray, List.append_toArray, List.nil_append, List.cons_append]
  gi_wp2
  refine ⟨trivial, hct.mono ?_⟩
  rintro e w2 ⟨rfl, rfl⟩
  gi_wp2
  gi_loopw [8] (fun i wr => i = .int .i64 0 ∧ J [] wr) (fun _ _ => 1)
  case atStart => exact ⟨rfl, h0⟩
  case round =>
    obtain ⟨rfl, hJs⟩ := hrel
    gi_wp2
    go_end0
    exact ⟨⟨_, rfl⟩, .inl ⟨_, rfl, hJs⟩⟩
end Go.Proofs.Ytipgjpmaflcpkaa
