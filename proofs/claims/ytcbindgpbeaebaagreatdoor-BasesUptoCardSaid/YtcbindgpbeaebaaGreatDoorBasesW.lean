import Derived.Test.YtcbindgpbeaebaaGreatDoorBopB
namespace Go.Proofs.YtcbindgpbeaebaaGreatDoor
open Go.RowKit Go.Deep
attribute [local go_sem ↓] Go.wp_at_zero Go.wp_at_succ

/-- Ahead of step k of the law's script. -/
def AtK (w : World) (B bw k : Nat) : Prop := BSmE w B bw ∨ ∃ N, 300 ≤ N ∧ BInvE w B bw N k
theorem AtK.below {w w' : World} {B bw k : Nat} (h : AtK w B bw k) (hb : Below w.heap.size w w') : AtK w' B bw k := by
  rcases h with ⟨bd, sv, lv, S, wt, lf, fd, h⟩ | ⟨N, hN, h⟩
  · exact .inl ⟨bd, sv, lv, S, wt, lf, fd, h.below hb⟩
  · exact .inr ⟨N, hN, h.below hb⟩
theorem AtK.hB {w : World} {B bw k : Nat} (h : AtK w B bw k) : B ≤ w.heap.size := by
  rcases h with ⟨bd, sv, lv, S, wt, lf, fd, h⟩ | ⟨N, hN, bd, bs, xv, bv, ov, lv, d, tw, br, lsv, l2, X, S, pend, M, h⟩
  · exact h.hB
  · exact h.hB
theorem AtK.looks {w : World} {B bw k : Nat} (h : AtK w B bw k) : Calls Tryz.prog 14 #[.pointer (some ⟨bw, 0, none⟩)] w fun e w' => e = .returned (.bool true) ∧ Below w.heap.size w w' := by
  rcases h with ⟨bd, sv, lv, S, wt, lf, fd, h⟩ | ⟨N, hN, bd, bs, xv, bv, ov, lv, d, tw, br, lsv, l2, X, S, pend, M, h⟩
  · obtain ⟨⟨_, _, _, _, _, _, x6⟩, _⟩ := bcell h.own
    exact looks_any w B bw (.slice none 0 0) [] x6 (lt_of_heap h.own) ⟨World.ownsRow_nil _ _ _ _, by simp, by simp, by simp, by simp⟩
  · obtain ⟨⟨_, _, _, _, _, _, x6⟩, _⟩ := bcell h.st.own
    exact looks_any w B bw lsv X x6 (lt_of_heap h.st.own) h.st.ls
theorem step_at (w : World) (B bw k : Nat) (h : AtK w B bw k) (hk9 : k ≤ 1048576) (kd n : Int) (s : ByteArray) (lo : Option Addr) (ln lc : Nat) (ko : Option Addr) (kn kc : Nat) (ks : List Int) (L : List Dd) (hn : n ≤ 9223372036854775807) (hsz : s.size ≤ 4611686018427387903)
    (hk : IntsAt w (.slice ko kn kc) ks) (hkl : ∀ b o m c, Value.slice ko kn kc = .slice (some ⟨b, o, none⟩) m c → 0 < m → b < B)
    (hv : DIn w (.slice lo ln lc) L) (hL : L.length ≤ 2000000) (hpz : ∀ x ∈ L, x.node.path.size ≤ 4611686018427387903) (hlow : ∀ b o n c, Value.slice lo ln lc = .slice (some ⟨b, o, none⟩) n c → 0 < n → b < B) :
    Calls Tryz.prog 13 #[.pointer (some ⟨bw, 0, none⟩), .agg #[.int .i64 kd, .int .i64 n, .string s, .slice lo ln lc, .slice ko kn kc]] w fun e w' => e = .returned (.bool true) ∧ AtK w' B bw (k + 1) ∧ Below B w w' := by
  rcases h with h | ⟨N, hN, h⟩
  · refine (bstep_small w B bw h kd n s lo ln lc ko kn kc).mono ?_
    rintro e w' ⟨he, a, b⟩
    exact ⟨he, .inl a, b⟩
  · refine (step_binv w B bw N k h hk9 hN kd n s lo ln lc ko kn kc ks L hn hsz hk hkl hv hL hpz hlow).mono ?_
    rintro e w' ⟨he, a, b⟩
    exact ⟨he, .inr ⟨N, hN, a⟩, b⟩

/-- A new disk. -/
def Disk0 (w : World) (B bd M : Nat) : Prop := B ≤ bd ∧ M ≤ 4096 ∧ ((∃ sv S, S.length = M ∧ M < 300 ∧ SAt w bd sv (.slice none 0 0) S (-1) (-1) 0) ∨ (300 ≤ M ∧ ∃ bs, B ≤ bs ∧ DAt w bd bs (.slice none 0 0) (newDk M)))
theorem Disk0.below {w w' : World} {B bd M : Nat} (h : Disk0 w B bd M) (hb : Below w.heap.size w w') : Disk0 w' B bd M := by
  obtain ⟨h0, hM, ⟨sv, S, h1, h2, h3⟩ | ⟨h1, bs, h2, h3⟩⟩ := h
  · exact ⟨h0, hM, .inl ⟨sv, S, h1, h2, h3.below hb⟩⟩
  · exact ⟨h0, hM, .inr ⟨h1, bs, h2, h3.below hb⟩⟩
theorem new_all (w : World) (size : Int) : Calls Tryz.prog 12 #[.int .i64 size] w fun e w' => ∃ bd M, e = .returned (.pointer (some ⟨bd, 0, none⟩)) ∧ Disk0 w' w.heap.size bd M ∧ Below w.heap.size w w' := by
  by_cases h0 : size ≤ 0
  · refine (new_none w size h0).mono ?_
    rintro e w' ⟨bd, sv, he, hs, hb, hl⟩
    exact ⟨bd, 0, he, ⟨hl, by omega, .inl ⟨sv, [], rfl, by omega, hs⟩⟩, hb⟩
  · by_cases h1 : 4096 < size
    · refine (new_big w size h1).mono ?_
      rintro e w' ⟨bd, bs, he, hd, hb, l1, l2⟩
      exact ⟨bd, 4096, he, ⟨l1, Nat.le_refl _, .inr ⟨by omega, bs, l2, hd⟩⟩, hb⟩
    · refine (new_any w size (by omega) (by omega)).mono ?_
      rintro e w' ⟨bd, bs, he, hd, hb, l1, l2⟩
      by_cases h2 : size < 300
      · have q := SAt.ofD hd
        exact ⟨bd, size.toNat, he, ⟨l1, by omega, .inl ⟨_, (newDk size.toNat).safe, List.length_replicate, by omega, q⟩⟩, hb⟩
      · exact ⟨bd, size.toNat, he, ⟨l1, by omega, .inr ⟨by omega, bs, l2, hd⟩⟩, hb⟩
theorem Disk0.at {w : World} {B bd M bw : Nat} (h : Disk0 w B bd M) (hw : w.heap[bw]? = some (.cells (bcells bd (.pointer none) (.slice none 0 0) (.slice none 0 0) false false (.slice none 0 0)) 33 (0, 0))) (hB : B ≤ w.heap.size) (hb : B ≤ bw) : AtK w B bw 0 := by
  obtain ⟨h0, hM, ⟨sv, S, h1, h2, h3⟩ | ⟨h1, bs, h2, h3⟩⟩ := h
  · exact .inl ⟨bd, sv, _, S, _, _, _, ⟨h3, hw, hB, hb, h0, by omega⟩⟩
  · have hlen : (newDk M).safe.length = M := List.length_replicate
    have i : BInv w B bw M 0 bd bs (.pointer none) (.slice none 0 0) (.slice none 0 0) (.slice none 0 0) (newDk M) false false (.slice none 0 0) [] [] (newDk M).safe none [] :=
      { st := ⟨hw, NAt.nil w, NAt.nil w, ⟨World.ownsRow_nil _ _ _ _, by simp, by simp, by simp, by simp⟩⟩, disk := h3, hB := hB, bw0 := hb, bd0 := h0, bs0 := h2, lv0 := by simp [Value.ownBlock], ok := newDk_ok M hM, fl := Int.le_refl _, xl := by simp, n := hlen, sn := hlen, late := by simp [newDk], stn := ⟨rfl, by rw [rd_new, clr_zero], fun _ _ => rfl⟩, cont := new_cont M, l2l := by simp, two := ⟨fun _ => rfl, fun ps e => by cases e⟩, base := .inl rfl }
    exact .inr ⟨M, h1, ⟨_, _, _, _, _, _, _, _, _, _, _, _, _, _, _, i⟩⟩

/-- The script, as it lies in memory. -/
def Turns (w : World) (B : Nat) (ao : Option Addr) (len : Nat) : Prop := ∀ i, i < len → ∃ b o k n s lo ln lc ko kn kc ks L, ao = some ⟨b, o, none⟩ ∧ b < B ∧ w.cell? ⟨b, o + i * 5, none⟩ = some (.int .i64 k) ∧ w.cell? ⟨b, o + i * 5 + 1, none⟩ = some (.int .i64 n) ∧ w.cell? ⟨b, o + i * 5 + 2, none⟩ = some (.string s) ∧ w.cell? ⟨b, o + i * 5 + 3, none⟩ = some (.slice lo ln lc) ∧ w.cell? ⟨b, o + i * 5 + 4, none⟩ = some (.slice ko kn kc) ∧
  n ≤ 9223372036854775807 ∧ s.size ≤ 4611686018427387903 ∧ IntsAt w (.slice ko kn kc) ks ∧ (∀ b' o' m c, Value.slice ko kn kc = .slice (some ⟨b', o', none⟩) m c → 0 < m → b' < B) ∧ DIn w (.slice lo ln lc) L ∧ L.length ≤ 2000000 ∧ (∀ x ∈ L, x.node.path.size ≤ 4611686018427387903) ∧ ∀ b' o' m c, Value.slice lo ln lc = .slice (some ⟨b', o', none⟩) m c → 0 < m → b' < B

set_option maxRecDepth 100000 in
set_option maxHeartbeats 8000000 in
theorem bases_law (w : World) (size : Int) (ao : Option Addr) (len cap : Nat) (hlen : len ≤ 1048576) (hd : Turns w w.heap.size ao len) :
    Calls Tryz.prog 3 #[.int .i64 size, .slice ao len cap] w fun e w' => e = .returned (.bool true) ∧ Below w.heap.size w w' := by
  have HD := hide hd
  clear hd
  go_enter Tryz.func3, Tryz.ntmps3
  go_wp2_with fail
  refine (rooted_any w).mono ?_
  rintro e w1 ⟨rfl, b1⟩
  have HB1 := hide b1
  have sz1 := b1.size
  clear b1
  go_wp2_with fail
  refine (new_all w1 size).mono ?_
  rintro e w2 ⟨bd, M, rfl, d2, b2⟩
  have HD2 := hide d2
  have HB2 := hide b2
  have sz2 := b2.size
  clear d2 b2
  go_wp2_with fail
  generalize hO : (Obj.cells #[Value.pointer (some ⟨bd, 0, none⟩), Value.pointer none, Value.slice none 0 0, Value.slice none 0 0, Value.bool false, Value.bool false, Value.slice none 0 0] 33 : Obj) = O
  have hA : (w2.alloc O).heap[w2.heap.size]? = some (.cells (bcells bd (.pointer none) (.slice none 0 0) (.slice none 0 0) false false (.slice none 0 0)) 33 (0, 0)) := by
    rw [← hO]
    exact heap_alloc_new w2 _
  have d4 := (unhide HD2).below (below_new w2 O)
  have bB : Below w.heap.size w (w2.alloc O) := ((unhide HB1).trans ((unhide HB2).mono sz1)).trans ((below_new w2 O).mono (by omega))
  have d6' : Disk0 (w2.alloc O) w.heap.size bd M := ⟨Nat.le_trans sz1 d4.1, d4.2.1, d4.2.2.elim .inl fun ⟨a, bs, b, c⟩ => .inr ⟨a, bs, Nat.le_trans sz1 b, c⟩⟩
  have HAt := hide (d6'.at (bw := w2.heap.size) hA bB.size (by omega))
  have HB6 := hide bB
  clear hA d4 bB d6' HB1 HB2 HD2
  go_loopw [7] (fun i wr => ∃ k : Nat, k ≤ len ∧ i = .int .i64 k ∧ AtK wr w.heap.size w2.heap.size k ∧ Below w.heap.size w wr) (fun i _ => len - (intOf i).toNat)
  case atStart => exact ⟨0, Nat.zero_le _, rfl, unhide HAt, unhide HB6⟩
  case round =>
    obtain ⟨k, hk, rfl, hat, hbk⟩ := hrel
    have HATK := hide hat
    have HBK := hide hbk
    clear hat hbk HAt HB6
    by_cases hlt : k < len
    · obtain ⟨b, o, kd, n, t, lo, ln, lc, ko, kn, kc, ks, L, rfl, hbB, c0, c1, c2, c3, c4, hn, hsz, hik, hkl, hdi, hL, hpz, hdl⟩ := (unhide HD) k hlt
      have y0 := ((unhide HBK).cell (p := ⟨b, o + k * 5, none⟩) hbB).trans c0
      have y1 := ((unhide HBK).cell (p := ⟨b, o + k * 5 + 1, none⟩) hbB).trans c1
      have y2 := ((unhide HBK).cell (p := ⟨b, o + k * 5 + 2, none⟩) hbB).trans c2
      have y3 := ((unhide HBK).cell (p := ⟨b, o + k * 5 + 3, none⟩) hbB).trans c3
      have y4 := ((unhide HBK).cell (p := ⟨b, o + k * 5 + 4, none⟩) hbB).trans c4
      have i0 : (0 : Int) ≤ (k : Int) := Int.natCast_nonneg _
      have i1 : (k : Int) < (len : Int) := by omega
      have HST := hide (step_at wr w.heap.size w2.heap.size k (unhide HATK) (by omega) kd n t lo ln lc ko kn kc ks L hn hsz (hik.under (unhide HBK) hkl) hkl (hdi.low (unhide HBK) hdl) hL hpz hdl)
      clear c0 c1 c2 c3 c4 hik hkl hn hsz hdi hL hpz hdl
      go_wp2_with fail
      refine (unhide HST).mono ?_
      rintro e w5 ⟨rfl, a5, b5⟩
      have HA5 := hide a5
      have HB5 := hide ((unhide HBK).trans b5)
      clear a5 b5 y0 y1 y2 y3 y4 HST
      go_wp2_with fail
      refine ((unhide HA5).looks).mono ?_
      rintro e w6 ⟨rfl, b6⟩
      have HA6 := hide ((unhide HA5).below b6)
      have HB6 := hide ((unhide HB5).trans (b6.mono (unhide HA5).hB))
      clear b6
      go_wp2_with fail
      go_roundw
      case rel => exact ⟨k + 1, by omega, by go_num, unhide HA6, unhide HB6⟩
      case measure => simp [intOf]; omega
    · have hge : ¬ ((k : Int) < (len : Int)) := by omega
      go_wp2_with fail
      go_ret
      exact ⟨rfl, unhide HBK⟩
end Go.Proofs.YtcbindgpbeaebaaGreatDoor
