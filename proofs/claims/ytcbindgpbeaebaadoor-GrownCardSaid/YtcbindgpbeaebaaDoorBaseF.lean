import Derived.Test.YtcbindgpbeaebaaDoorBaseE
import Derived.Test.YtcbindgpbeaebaaDoorPureB
namespace Go.Proofs.YtcbindgpbeaebaaDoor
open Go.RowKit Go.Deep
attribute [local go_sem ↓] Go.wp_at_zero Go.wp_at_succ

def OpenPost (w : World) (B bd bs : Nat) (lv : Value) (r : Bool × Dk) (e : Ending) (w' : World) : Prop :=
  ∃ lv', DStep bd bs lv lv' w w' ∧ Below B w w' ∧
    ((∃ bb, r.1 = true ∧ r.2.life ≠ 0 ∧ w.heap.size ≤ bb ∧ e = .returned (.tuple #[.pointer (some ⟨bb, 0, none⟩), .int .i64 0]) ∧ BAt w' bb w.heap.size false ∧ Sys w' B w.heap.size bd bs (.slice none 0 0) lv' [] false r.2) ∨
     ((r.1 = false ∨ r.2.life = 0) ∧ e = .returned (.tuple #[.pointer none, .int .i64 9]) ∧ DAt w' bd bs lv' r.2))

set_option maxRecDepth 100000 in
set_option maxHeartbeats 6400000 in
theorem bopen_any (w : World) (B bd bs : Nat) (lv : Value) (d : Dk) (ps : List (Nat × ByteArray)) (h : DAt w bd bs lv d) (hB : B ≤ w.heap.size) (hBd : B ≤ bd) (hBs : B ≤ bs) (hBv : ∀ g, lv.ownBlock = some g → B ≤ g) (ok : d.Ok) (hs : 300 ≤ d.safe.length) (hll : d.late.length ≤ 1000000)
    (ht : d.flush.1 = true → Tells (d.flush.2.read 0) ps) (hl : ps.length ≤ 80) (hb4 : ∀ p ∈ ps, 90 + p.1 < d.safe.length) (hz : ∀ p ∈ inRoom d.flush.2 0 ps, p.2.size ≤ 256) :
    Calls Tryd.prog 13 #[.pointer (some ⟨bd, 0, none⟩)] w (OpenPost w B bd bs lv (d.redo ps)) := by
  have hbl := dblocks_any w bd bs lv d h
  have hop := open_any w B bd bs lv d ps h hB hBd hBs hBv ok (by omega) hll ht hl hb4 hz
  generalize d.redo ps = r at hop ⊢
  obtain ⟨r1, d'⟩ := r
  dsimp only at hop
  have h300 : ¬ ((d.safe.length : Int) < 300) := by omega
  have HOP := hide hop
  clear hop ht hz hb4
  go_enter Tryd.func13, Tryd.ntmps13
  go_wp2_with fail
  refine hbl.mono ?_
  rintro e w1 ⟨rfl, e1⟩
  have e1 := e1.symm
  subst e1
  go_wp2_with fail
  refine (unhide HOP).mono ?_
  rintro e w2 ⟨lv', st, hb, ha, hc⟩
  cases r1 with
  | false =>
    obtain ⟨rfl, hd, _⟩ := hc rfl
    go_wp2_with fail
    go_ret2
    exact ⟨lv', st, hb, .inr ⟨.inl rfl, rfl, hd⟩⟩
  | true =>
    obtain ⟨rfl, hS⟩ := ha rfl
    have hdd := dead_any w2 bd bs lv' d' hS.disk
    clear ha hc
    go_wp2_with fail
    refine hdd.mono ?_
    rintro e w3 ⟨rfl, e3⟩
    have e3 := e3.symm
    subst e3
    by_cases hl0 : d'.life = 0
    · have hl1 : (d'.life == 0) = true := by simpa using hl0
      rw [hl1]
      go_wp2_with fail
      go_ret2
      exact ⟨lv', st, hb, .inr ⟨.inr hl0, rfl, hS.disk⟩⟩
    · have hl1 : (d'.life == 0) = false := by simpa using hl0
      rw [hl1]
      go_wp2_with fail
      go_ret2
      obtain ⟨W, hW⟩ : ∃ W, W = w2.alloc (.cells #[.pointer (some ⟨w.heap.size, 0, none⟩), .bool false] 80) := ⟨_, rfl⟩
      have hbW : Below w2.heap.size w2 W := by rw [hW]; exact (Below.refl _ w2).alloc (Nat.le_refl _) _
      refine ⟨lv', ?_, ?_, .inl ⟨w2.heap.size, rfl, hl0, st.size, rfl, ⟨heap_alloc_new w2 _⟩, ?_⟩⟩
      · rw [← hW]; exact st.trans (DStep.ofBelow hbW)
      · rw [← hW]; exact hb.trans (hbW.mono (Nat.le_trans hB st.size))
      · rw [← hW]; exact sys_kept hS hbW.size fun k hk _ => hbW.block k hk
end Go.Proofs.YtcbindgpbeaebaaDoor
