/-
  Logs: the given statement, out of the walk 'logs_law'.
-/
import Derived.Test.YtcbindgpbeaebaaRows
import Derived.Test.YtcbindgpbeaebaaLogsW
import Derived.WalkKit
import Derived.ProofKit
import Derived.OpenShut
import Derived.ShutString
import Derived.ChangeOld
import Derived.Below
import Derived.Deep.Slices
namespace Go.Proofs.Ytcbindgpbeaebaa.logs
open Go.ChangeShapes Go.WideShapes Go.ChangeAt Go.RowKit
open Go.ChangeMaps (open_string shut_string)
set_option linter.unusedVariables false

theorem own : ownKnob Try.prog.godebug = none := by kernel_rfl
theorem laidOut : laidOutB Try.prog = true := by kernel_rfl

theorem wf_i64 {n : Int} (h : (Lit.int .i64 n).wf = true) : -9223372036854775808 ≤ n ∧ n ≤ 9223372036854775807 := by
  have := bounds_i64 h
  omega
theorem add_plain (b o i : Nat) : (⟨b, o, none⟩ : Addr).add i = ⟨b, o + i, none⟩ := by unfold Addr.add; split <;> simp_all
theorem spot_none {w : World} {x : Addr} {v : Value} (h : w.cell? (x.add 0) = some v) : x = ⟨x.block, x.off, none⟩ := by
  obtain ⟨b, o, s⟩ := x
  cases s with
  | none => rfl
  | some t =>
    exfalso
    have e : (⟨b, o, some t⟩ : Addr).add 0 = ⟨b, o, some t⟩ := rfl
    rw [e] at h
    simp [World.cell?] at h
    split at h <;> simp_all
theorem ints_lt {w : World} {v : Value} {ks : List Int} (h : IntsAt w v ks) : ∀ b o n c, v = .slice (some ⟨b, o, none⟩) n c → 0 < n → b < w.heap.size := by
  obtain ⟨⟨ao, cap, hv, hc⟩, _⟩ := h
  intro b o n c e hn
  rw [hv] at e
  simp only [Value.slice.injEq] at e
  obtain ⟨e1, e2, _⟩ := e
  obtain ⟨b', o', e', hcell⟩ := hc 0 ks[0] (List.getElem?_eq_getElem (by omega))
  rw [e'] at e1
  simp only [Option.some.injEq, Addr.mk.injEq] at e1
  obtain ⟨rfl, rfl, _⟩ := e1
  exact World.block_lt_of_cell? w _ hcell

section
variable {H : Type} {enc : TypeId × Value → H} {W : World}
/-- A list of numbers within a Deal. -/
theorem keep_open {fuel : Nat} {v : Value} {x : DataW H × List MemPlace} (h : DataW.trod enc Try.prog W 0 (fun _ => true) true fuel 36 [v] = some x) :
    ∃ ko kn kc ks, v = .slice ko kn kc ∧ IntsAt W (.slice ko kn kc) ks := by
  rcases open_ints Try.underlying36 Try.underlying3 (by kernel_rfl) h with ⟨hcs, _⟩ | ⟨x, l, c, zs, hcs, _, hl, hm, hz, _, hcell, hwz⟩
  · simp only [List.cons.injEq, and_true] at hcs
    exact ⟨none, 0, 0, [], hcs, ⟨none, 0, rfl, fun i c hi => by simp at hi⟩, fun c hc => by simp at hc⟩
  · simp only [List.cons.injEq, and_true] at hcs
    have hz : zs.length = c := by simpa using hz
    have hlen : (zs.take l).length = l := by rw [List.length_take]; omega
    refine ⟨some x, l, c, zs.take l, hcs, ⟨some x, c, by rw [hlen], fun i q hi => ?_⟩, fun q hq => wf_i64 (hwz q (List.mem_of_mem_take hq))⟩
    have hi' : i < l := by
      have := (List.getElem?_eq_some_iff.1 hi).1
      omega
    have hci := hcell i (by omega)
    have e := spot_none (hcell 0 (by omega))
    refine ⟨x.block, x.off, by rw [← e], ?_⟩
    have hadd : x.add i = ⟨x.block, x.off + i, none⟩ := by
      have := add_plain x.block x.off i
      rwa [← e] at this
    rw [hadd] at hci
    rw [hci]
    rw [List.getElem?_take_of_lt hi'] at hi
    simp [List.getD, hi]
theorem four {cs : List Value} (h : cs.length = 4) : ∃ c0 c1 c2 c3, cs = [c0, c1, c2, c3] := by
  match cs, h with
  | [c0, c1, c2, c3], _ => exact ⟨c0, c1, c2, c3, rfl⟩
/-- A Deal. -/
theorem deal_open {fuel : Nat} {cs : List Value} {x : DataW H × List MemPlace} (h : DataW.trod enc Try.prog W 0 (fun _ => true) true fuel 38 cs = some x) :
    ∃ k n s ko kn kc ks, cs = [.int .i64 k, .int .i64 n, .string s, .slice ko kn kc] ∧ n ≤ 9223372036854775807 ∧ IntsAt W (.slice ko kn kc) ks := by
  obtain ⟨xs, m, _, _, hl, hlen, hf⟩ := DataW.trod_struct Try.underlying38 h
  have hc : Try.prog.cellsOf 38 = 4 := by kernel_rfl
  have hi : Try.prog.cellsOf 3 = 1 := by kernel_rfl
  have hs : Try.prog.cellsOf 9 = 1 := by kernel_rfl
  have hk : Try.prog.cellsOf 36 = 1 := by kernel_rfl
  rw [hc] at hl
  obtain ⟨c0, c1, c2, c3, rfl⟩ := four hl
  have hx : xs.length = 4 := hlen
  have g0 : DataW.trod enc Try.prog W 0 (fun _ => true) true m 3 (([c0, c1, c2, c3].drop 0).take (Try.prog.cellsOf 3)) = xs[0]? := hf 0 _ rfl
  have g1 : DataW.trod enc Try.prog W 0 (fun _ => true) true m 3 (([c0, c1, c2, c3].drop 1).take (Try.prog.cellsOf 3)) = xs[1]? := hf 1 _ rfl
  have g2 : DataW.trod enc Try.prog W 0 (fun _ => true) true m 9 (([c0, c1, c2, c3].drop 2).take (Try.prog.cellsOf 9)) = xs[2]? := hf 2 _ rfl
  have g3 : DataW.trod enc Try.prog W 0 (fun _ => true) true m 36 (([c0, c1, c2, c3].drop 3).take (Try.prog.cellsOf 36)) = xs[3]? := hf 3 _ rfl
  rw [List.getElem?_eq_getElem (by omega)] at g0 g1 g2 g3
  simp only [hi, hs, hk, List.drop_zero, List.drop_succ_cons, List.take_succ_cons, List.take_zero] at g0 g1 g2 g3
  obtain ⟨k, e0, _, _⟩ := DataW.trod_int Try.underlying3 g0
  obtain ⟨n, e1, _, wn⟩ := DataW.trod_int Try.underlying3 g1
  obtain ⟨s, e2, _, _⟩ := DataW.trod_string Try.underlying9 g2
  obtain ⟨ko, kn, kc, ks, e3, e4⟩ := keep_open g3
  simp only [List.cons.injEq, and_true] at e0 e1 e2
  subst e0 e1 e2 e3
  exact ⟨k, n, s, ko, kn, kc, ks, rfl, (wf_i64 wn).2, e4⟩
/-- The script. -/
theorem deals_open {fuel : Nat} {a : Option Addr} {len cap : Nat} {x : DataW H × List MemPlace} (h : DataW.trod enc Try.prog W 0 (fun _ => true) true fuel 22 [.slice a len cap] = some x) : len ≤ 9223372036854775807 ∧ Deals W W.heap.size a len := by
  rcases Go.Deep.open_slice Try.underlying22 h with ⟨hcs, _⟩ | ⟨a', len', cap', m, n, D, Pl, hcs, _, hl, hm, hmm, _, hel⟩
  · simp only [List.cons.injEq, Value.slice.injEq, and_true] at hcs
    obtain ⟨rfl, rfl, rfl⟩ := hcs
    exact ⟨by omega, fun i hi => by omega⟩
  · simp only [List.cons.injEq, Value.slice.injEq, and_true] at hcs
    obtain ⟨rfl, rfl, rfl⟩ := hcs
    have hc : Try.prog.cellsOf 38 = 4 := by kernel_rfl
    have hm2 : m = cap := by simpa using hmm
    unfold maxLen at hm
    refine ⟨by omega, fun i hi => ?_⟩
    have hel0 := hel 0 (by omega)
    have heli := hel i (by omega)
    rw [hc] at hel0 heli
    obtain ⟨cs0, hcs0, ht0⟩ := hel0
    obtain ⟨cs, hcs, ht⟩ := heli
    obtain ⟨k0, n0, s0, ko0, kn0, kc0, ks0, rfl, _, _⟩ := deal_open ht0
    obtain ⟨k, n, s, ko, kn, kc, ks, rfl, hn, hk⟩ := deal_open ht
    have q0 := (World.cells?_some hcs0).2.2 0 (by omega)
    have e : a' = ⟨a'.block, a'.off, none⟩ := by
      refine spot_none (w := W) (v := .int .i64 k0) ?_
      have : (a'.add (0 * 4)).add 0 = a'.add 0 := by simp [Go.Deep.add_add]
      rw [this] at q0
      simpa using q0
    have qi := (World.cells?_some hcs).2.2
    have hadd : ∀ j, (a'.add (i * 4)).add j = ⟨a'.block, a'.off + i * 4 + j, none⟩ := fun j => by
      rw [Go.Deep.add_add, e, add_plain]
      simp [Nat.add_assoc]
    have r0 := qi 0 (by omega)
    have r1 := qi 1 (by omega)
    have r2 := qi 2 (by omega)
    have r3 := qi 3 (by omega)
    rw [hadd] at r0 r1 r2 r3
    refine ⟨a'.block, a'.off, k, n, s, ko, kn, kc, ks, by rw [← e], World.block_lt_of_cell? W ⟨a'.block, a'.off + i * 4 + 0, none⟩ (r0.trans rfl), r0.trans rfl, r1.trans rfl, r2.trans rfl, r3.trans rfl, hn, hk, ints_lt hk⟩
end

set_option maxRecDepth 100000 in
theorem lifted (os : Os) (started : os.Started) (H : Type) (enc : TypeId × Value → H) :
    ReturnsInHanded {} Try.checked os 3 .any (Rows.logsSpec.pre6 enc Try.prog Try.f3 Rows.logsRow.domain false) (Rows.logsSpec.post enc Try.prog Try.f3 false true false false) := by
  refine returnsInHanded_of_change (C := Try.checked) own started (by kernel_rfl) Try.func3
    (ChangeSpec.witness6 (enc := enc) (C := Try.checked) false ⟨#[], #[.int .i64 0, .slice none 0 0], []⟩ 8 (by kernel_rfl) (by kernel_rfl) (by kernel_rfl) (by kernel_rfl)) ?_
  intro W base args ds gs before hval0 hW hcnd _
  have hval : ∀ (j : Nat) t v, Try.f3.params[j]? = some t → args[j]? = some v → Value.okWide Try.prog W .any base t v := hval0
  have hW' := hW
  obtain ⟨p, q, hA0, hV, rfl, hfz, hnd⟩ := hW
  have hA : DataW.TrodAll enc Try.prog W 0 (fun _ => true) true Try.f3.params.toList args.toList ds p := hA0
  rw [Try.params3] at hA hval
  obtain ⟨v0, vs0, d0, ds0, p0, q0, hargs, rfl, rfl, h0, r0⟩ := trodAll_cons hA
  obtain ⟨v1, vs1, d1, ds1, p1, q1, rfl, rfl, rfl, h1, r1⟩ := trodAll_cons r0
  obtain ⟨rfl, rfl, rfl⟩ := trodAll_nil r1
  obtain rfl : args = #[v0, v1] := by cases args; simp_all
  obtain ⟨rfl, rfl⟩ := trodVars_none hV
  obtain ⟨a0, rfl, rfl, rfl, w0⟩ := open_int Try.underlying3 (hval 0 3 v0 rfl rfl) h0
  obtain ⟨a1, len1, cap1, rfl⟩ := okWide_slice Try.underlying22 (hval 1 22 v1 rfl rfl)
  have k1 := h1
  have lt1 : ∀ x ∈ p1, x.block < W.heap.size := by obtain ⟨m, hm⟩ := k1; exact DataW.trod_lt m _ _ _ hm
  obtain ⟨hlen, hD⟩ : len1 ≤ 9223372036854775807 ∧ Deals W W.heap.size a1 len1 := by
    obtain ⟨fuel, hf⟩ := h1
    exact deals_open hf
  clear hA0 hval0
  refine (logs_law W a0 a1 len1 cap1 hlen hD).mono fun e W' ⟨he, bel⟩ => ?_
  subst he
  exact ⟨_, rfl, _, _, _, [], _, [], hW', trodAll_mk1 (shut_bool Try.underlying4 _), (trodAll_cons_mk (shut_int Try.underlying3 w0) (trodAll_cons_mk (Below.trod laidOut (by kernel_rfl) (of_decide_eq_true (by kernel_rfl)) k1 bel lt1) trodAll_mk0)), rfl, bel.frame _, fun h => by cases h⟩

theorem over : Rows.logsRow.holds Try.pinned (OpenSpec.ofChange Rows.logsSpec) :=
  OpenClaim.holds_of_wide 3 Try.f3 rfl rfl rfl rfl rfl rfl rfl ⟨rfl, rfl, rfl, rfl, rfl⟩ rfl rfl rfl rfl rfl (by kernel_rfl) Try.func3 (by kernel_rfl)
    (of_decide_eq_true (by kernel_rfl)) (by unfold Func.isWrapper; first | (rw [if_pos (by decide +kernel)]; kernel_rfl) | (rw [if_neg (by decide +kernel)]; exact ⟨rfl, rfl⟩))
    (fun os started H enc _ => lifted os started H enc)

theorem proved : Rows.LogsSaid := over
end Go.Proofs.Ytcbindgpbeaebaa.logs
namespace Go.Proofs.Ytcbindgpbeaebaa
theorem logs_holds : Rows.LogsSaid := logs.proved
#print axioms logs_holds
end Go.Proofs.Ytcbindgpbeaebaa
