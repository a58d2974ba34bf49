import Derived.Test.YtcbindgpbeaebaaDoorWalkL
namespace Go.Proofs.YtcbindgpbeaebaaDoor
open Go.RowKit Go.Deep
attribute [local go_sem ↓] Go.wp_at_zero Go.wp_at_succ

/-- What the room has for the numbers of a record. -/
def inRoom (d : Dk) : Nat → List (Nat × ByteArray) → List (Nat × ByteArray)
  | _, [] => []
  | i, p :: r => (p.1, d.read (1 + i)) :: inRoom d (i + 1) r
theorem inRoom_at (d : Dk) : ∀ (ps : List (Nat × ByteArray)) (i k : Nat) (p : Nat × ByteArray), ps[k]? = some p → (inRoom d i ps)[k]? = some (p.1, d.read (1 + (i + k)))
  | [], _, _, _, h => by simp at h
  | q :: r, i, 0, p, h => by simp at h; subst h; simp [inRoom]
  | q :: r, i, k + 1, p, h => by
    have := inRoom_at d r (i + 1) k p (by simpa using h)
    simp only [inRoom, List.getElem?_cons_succ, this]
    congr 4; omega
theorem inRoom_len (d : Dk) : ∀ (ps : List (Nat × ByteArray)) (i : Nat), (inRoom d i ps).length = ps.length
  | [], _ => rfl
  | q :: r, i => by simp [inRoom, inRoom_len d r]
theorem ownsRow_base {w : World} {b b' : Nat} {e : TypeId} {size : Nat} {v : Value} {n : Nat} {xs : List Value} (h : w.ownsRow b e size v n xs) (hb : b' ≤ b) : w.ownsRow b' e size v n xs := by
  obtain ⟨h1, h2⟩ := h
  refine ⟨h1, ?_⟩
  rcases h2 with h2 | ⟨g, cap, cur, hv, hg, hr⟩
  · exact .inl h2
  · exact .inr ⟨g, cap, cur, hv, Nat.le_trans hb hg, hr⟩

theorem noted_dead (w : World) (bl bd bs : Nat) (lv : Value) (d : Dk) (hp : w.cell? ⟨bl, 0, none⟩ = some (.pointer (some ⟨bd, 0, none⟩))) (h : DAt w bd bs lv d) (hs : 90 < d.safe.length) (hd : d.life = 0) :
    Calls Tryd.prog 72 #[.pointer (some ⟨bl, 0, none⟩)] w fun e w' => e = .returned (.tuple #[.slice none 0 0, .bool false]) ∧ w' = w := by
  have HD := hide hd
  clear hd
  go_enter Tryd.func72, Tryd.ntmps72
  go_wp2_with fail
  refine (read_dead _ bd bs lv d 0 h (by omega) (by omega) (unhide HD)).mono ?_
  rintro e w1 ⟨rfl, rfl⟩
  go_wp2_with fail
  go_ret2
  exact ⟨rfl, rfl⟩

set_option maxRecDepth 100000 in
set_option maxHeartbeats 3200000 in
theorem noted_live (w : World) (bl bd bs : Nat) (lv : Value) (d : Dk) (ps : List (Nat × ByteArray)) (hp : w.cell? ⟨bl, 0, none⟩ = some (.pointer (some ⟨bd, 0, none⟩))) (h : DAt w bd bs lv d) (hn : d.safe.length ≤ 4096) (hs : 90 < d.safe.length) (hll : d.late.length ≤ 1000000) (hd : d.life ≠ 0)
    (ht : Tells (d.read 0) ps) (hl : ps.length ≤ 80) (hb4 : ∀ p ∈ ps, 90 + p.1 < d.safe.length) :
    Calls Tryd.prog 72 #[.pointer (some ⟨bl, 0, none⟩)] w fun e w' => ∃ v, e = .returned (.tuple #[v, .bool true]) ∧ w'.ownsRow w.heap.size 159 2 v ps.length (flat (inRoom d 0 ps)) ∧ Below w.heap.size w w' := by
  have HD := hide hd
  clear hd
  have lbl := World.block_lt_of_cell? w _ hp
  obtain ⟨i0, hi0, hz0, hz1, hz2⟩ := info_parts info_put
  go_enter Tryd.func72, Tryd.ntmps72
  go_wp2_with fail
  refine (read_live _ bd bs lv d 0 h hn (by omega) (by omega) (unhide HD) hll).mono ?_
  rintro e w1 ⟨rfl, hw1⟩
  have hb1 : Below w.heap.size w w1 := by
    rcases hw1 with rfl | ⟨o, rfl⟩
    · exact Below.refl _ _
    · exact (Below.refl _ _).alloc (Nat.le_refl _) o
  clear hw1
  rw [Int.toNat_zero]
  have p1 := (hb1.cell (p := ⟨bl, 0, none⟩) lbl).trans hp
  have d1 := h.below hb1
  go_wp2_with fail
  refine (recorded_any _ bl bd bs lv d (d.read 0) ps p1 d1 hn ht hl hb4).mono ?_
  rintro e w2 ⟨nv, rfl, hnv, hb2⟩
  obtain ⟨no, ncap, rfl⟩ : ∃ no ncap, nv = .slice no ps.length ncap := ownsRow_form (ownsRow_base hnv (Nat.zero_le _))
  have hb02 : Below w.heap.size w w2 := hb1.trans (hb2.mono hb1.size)
  have sz2 := hb02.size
  go_wp2_with fail
  go_loopw [6, 25] (fun v i wr => ∃ k : Nat, k ≤ ps.length ∧ i = .int .i64 k ∧ wr.ownsRow w2.heap.size 159 2 v k (flat ((inRoom d 0 ps).take k)) ∧ Below w2.heap.size w2 wr) (fun _ i _ => ps.length - (intOf i).toNat)
  case atStart => exact ⟨0, Nat.zero_le _, rfl, World.ownsRow_nil _ _ _ _, Below.refl _ _⟩
  case round =>
    obtain ⟨k, hk, rfl, hown, hb⟩ := hrel
    have hb0 : Below w.heap.size w wr := hb02.trans (hb.mono sz2)
    by_cases hlt : k < ps.length
    · obtain ⟨p, hpk⟩ : ∃ p, ps[k]? = some p := ⟨ps[k], List.getElem?_eq_getElem hlt⟩
      have hx := inRoom_at d ps 0 k p hpk
      rw [Nat.zero_add] at hx
      obtain ⟨g, capx, hv, _, hg⟩ := hnv.form (by omega)
      have hno : no = some ⟨g, 0, none⟩ := by
        simp only [Value.slice.injEq] at hv
        exact hv.1
      subst hno
      clear hv
      have cn : wr.cell? ⟨g, k, none⟩ = some (.int .i64 (p.1 : Int)) := by
        have hc := hnv.cells (g := g) rfl k (.int .i64 (p.1 : Int)) (by simp [ncells, hpk])
        have hadd : (⟨g, 0, none⟩ : Addr).add k = ⟨g, k, none⟩ := by unfold Addr.add; split <;> simp_all
        rw [hadd] at hc
        exact (hb.cell (p := ⟨g, k, none⟩) hg).trans hc
      have HX := hide hx
      clear hx hpk
      have pr := (hb0.cell (p := ⟨bl, 0, none⟩) lbl).trans hp
      have dr := h.below hb0
      have i0' : (0 : Int) ≤ (k : Int) := Int.natCast_nonneg _
      have i1 : (k : Int) < (ps.length : Int) := by omega
      go_wp2_with fail
      refine (read_live _ bd bs lv d (1 + (k : Int)) dr hn (by omega) (by omega) (unhide HD) hll).mono ?_
      rintro e w3 ⟨rfl, hw3⟩
      rw [show ((1 : Int) + (k : Int)).toNat = 1 + k by omega]
      have hb3 : Below w2.heap.size w2 w3 := by
        rcases hw3 with rfl | ⟨o, rfl⟩
        · exact hb
        · exact hb.alloc hb.size o
      have hown3 : w3.ownsRow w2.heap.size 159 2 u6 k (flat ((inRoom d 0 ps).take k)) := by
        rcases hw3 with rfl | ⟨o, rfl⟩
        · exact hown
        · exact hown.alloc o
      clear hw3
      have sz3 := hb3.size
      go_wp2_with (at_builtin; refine wpList_append_lies _ (by rfl) _ _ _ (by rfl) w2.heap.size 159 i0 _ 2 24 Tryd.underlying111 hi0 hz0 hz1 hz2 rfl (by omega) _ k (flat ((inRoom d 0 ps).take k)) (by rfl) (hown3.alloc _) ⟨w3.heap.size, 0, none⟩ 1 1 [.int .i64 (p.1 : Int), .string (d.read (1 + k))] (by rfl) (by rfl) (World.news_of_block (cs := #[.int .i64 (p.1 : Int), .string (d.read (1 + k))]) (t := 159) (fr := (0, 0)) (heap_alloc_new w3 _)) (by simp [Value.oneCell']) (by omega) (by simp [maxLen]; omega) (by omega) (by simp; omega) (w3.heap.size + 1) (by simp) ?_; intro gg cap2 w4 hown1 hgrow hat hlt2)
      go_roundw
      case rel =>
        refine ⟨k + 1, by omega, by go_num, ?_, ?_⟩
        · rw [show (inRoom d 0 ps).take (k + 1) = (inRoom d 0 ps).take k ++ [(p.1, d.read (1 + k))] by rw [List.take_add_one, unhide HX]; rfl, flat_app]
          exact hown1
        · exact (hb3.alloc sz3 _).grown hgrow (by simp; omega) (fun q hq' => (hown3.lt q hq').1)
      case measure => simp [intOf]; omega
    · have hk' : (inRoom d 0 ps).take k = inRoom d 0 ps := List.take_of_length_le (by rw [inRoom_len]; omega)
      rw [hk'] at hown
      have hke : k = ps.length := by omega
      subst hke
      obtain ⟨ao, cap, rfl⟩ : ∃ ao cap, u6 = .slice ao ps.length cap := ownsRow_form (ownsRow_base hown (Nat.zero_le _))
      go_wp2_with fail
      go_ret2
      exact ⟨_, rfl, ownsRow_base hown sz2, hb0⟩
end Go.Proofs.YtcbindgpbeaebaaDoor
