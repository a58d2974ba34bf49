import Derived.Test.YtcbindgpbeaebaaInvA
namespace Go.Proofs.Ytcbindgpbeaebaa
open Go.RowKit Go.Deep
attribute [local go_sem ↓] Go.wp_at_zero Go.wp_at_succ

set_option maxRecDepth 100000 in
set_option maxHeartbeats 1600000 in
theorem step_open (w : World) (bw : Nat) (n : Int) (s : ByteArray) (kv : Value) (Q : World → Prop)
    (h : ∀ o, Calls Try.prog 19 #[.pointer (some ⟨bw, 0, none⟩)] (w.alloc o) fun e w' => e = .returned (.bool true) ∧ Q w') :
    Calls Try.prog 9 #[.pointer (some ⟨bw, 0, none⟩), .agg #[.int .i64 1, .int .i64 n, .string s, kv]] w fun e w' => e = .returned (.bool true) ∧ Q w' := by
  go_enter Try.func9, Try.ntmps9
  go_wp2_with fail
  refine (h _).mono ?_
  rintro e w1 ⟨rfl, hq⟩
  go_wp2_with fail
  go_ret
  exact ⟨rfl, hq⟩

set_option maxRecDepth 100000 in
set_option maxHeartbeats 1600000 in
theorem step_fail (w : World) (bw bd : Nat) (n : Int) (s : ByteArray) (kv : Value) (Q : World → Prop) (hbw : bw < w.heap.size) (h0 : w.cell? ⟨bw, 0, none⟩ = some (.pointer (some ⟨bd, 0, none⟩)))
    (h : ∀ o, Calls Try.prog 20 #[.pointer (some ⟨bd, 0, none⟩), .int .i64 n] (w.alloc o).drew fun e w' => e = .returned (.tuple #[]) ∧ Q w') :
    Calls Try.prog 9 #[.pointer (some ⟨bw, 0, none⟩), .agg #[.int .i64 11, .int .i64 n, .string s, kv]] w fun e w' => e = .returned (.bool true) ∧ Q w' := by
  go_enter Try.func9, Try.ntmps9
  go_wp2_with fail
  go_region_with ((go_at_call 20; refine (h _).mono ?_; rintro e w2 ⟨rfl, hq⟩))
  all_goals
    go_wp2_with fail
    go_ret
    exact ⟨rfl, hq⟩

set_option maxRecDepth 100000 in
set_option maxHeartbeats 1600000 in
theorem step_die (w : World) (bw bd : Nat) (n : Int) (s : ByteArray) (kv : Value) (Q : World → Prop) (hbw : bw < w.heap.size) (h0 : w.cell? ⟨bw, 0, none⟩ = some (.pointer (some ⟨bd, 0, none⟩)))
    (h : ∀ o, Calls Try.prog 14 #[.pointer (some ⟨bd, 0, none⟩), .int .i64 n] (w.alloc o).drew fun e w' => e = .returned (.tuple #[]) ∧ Q w') :
    Calls Try.prog 9 #[.pointer (some ⟨bw, 0, none⟩), .agg #[.int .i64 12, .int .i64 n, .string s, kv]] w fun e w' => e = .returned (.bool true) ∧ Q w' := by
  go_enter Try.func9, Try.ntmps9
  go_wp2_with fail
  go_region_with ((go_at_call 14; refine (h _).mono ?_; rintro e w2 ⟨rfl, hq⟩))
  all_goals
    go_wp2_with fail
    go_ret
    exact ⟨rfl, hq⟩

set_option maxRecDepth 100000 in
set_option maxHeartbeats 1600000 in
theorem step_crash (w : World) (bw bd : Nat) (n : Int) (s : ByteArray) (ao : Option Addr) (kn kc : Nat) (Q : World → Prop) (hbw : bw < w.heap.size) (h0 : w.cell? ⟨bw, 0, none⟩ = some (.pointer (some ⟨bd, 0, none⟩))) (xv : Value) (h1 : w.cell? ⟨bw, 1, none⟩ = some xv) (hz : ∀ i, w.frozen? ⟨bw, i, none⟩ = false)
    (h : ∀ o, Calls Try.prog 16 #[.pointer (some ⟨bd, 0, none⟩), .slice ao kn kc] ((w.setCell ⟨bw, 1, none⟩ (.pointer none)).alloc o).drew fun e w' => e = .returned (.tuple #[]) ∧ Q w') :
    Calls Try.prog 9 #[.pointer (some ⟨bw, 0, none⟩), .agg #[.int .i64 13, .int .i64 n, .string s, .slice ao kn kc]] w fun e w' => e = .returned (.bool true) ∧ Q w' := by
  have nb : ¬ w.heap.size = bw := by omega
  go_enter Try.func9, Try.ntmps9
  go_wp2_with fail
  go_region_with ((go_at_call 16; refine (h _).mono ?_; rintro e w2 ⟨rfl, hq⟩))
  all_goals
    go_wp2_with fail
    go_ret
    exact ⟨rfl, hq⟩

set_option maxRecDepth 100000 in
set_option maxHeartbeats 1600000 in
theorem step_nil (w : World) (bw : Nat) (k n : Int) (s : ByteArray) (kv : Value) (hbw : bw < w.heap.size) (h1 : w.cell? ⟨bw, 1, none⟩ = some (.pointer none)) (hk1 : (k == 1) = false) (hk2 : (k == 11) = false) (hk3 : (k == 12) = false) (hk4 : (k == 13) = false) :
    Calls Try.prog 9 #[.pointer (some ⟨bw, 0, none⟩), .agg #[.int .i64 k, .int .i64 n, .string s, kv]] w fun e w' => e = .returned (.bool true) ∧ ∃ o, w' = w.alloc o := by
  go_enter Try.func9, Try.ntmps9
  go_wp2_with fail
  go_ret
  exact ⟨rfl, _, rfl⟩
end Go.Proofs.Ytcbindgpbeaebaa
