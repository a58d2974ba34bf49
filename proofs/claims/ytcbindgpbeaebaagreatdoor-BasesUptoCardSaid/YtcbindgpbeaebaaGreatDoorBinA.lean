import Derived.Test.YtcbindgpbeaebaaGreatDoorStpC
import Derived.Test.YtcbindgpbeaebaaGreatDoorOneE
namespace Go.Proofs.YtcbindgpbeaebaaGreatDoor
open Go.RowKit Go.Deep

/-- Blocks of these types are as they were. -/
def KeepsT (P : TypeId → Prop) (w w' : World) : Prop := ∀ (g : Nat) (cur : Array Value) (t : TypeId), w.heap[g]? = some (.cells cur t (0, 0)) → P t → w'.heap[g]? = w.heap[g]?
theorem KeepsT.below {P : TypeId → Prop} {w w' : World} (h : Below w.heap.size w w') : KeepsT P w w' := fun g _ _ hc _ => h.block g (lt_of_heap hc)
theorem KeepsT.weak {P Q : TypeId → Prop} {w w' : World} (h : KeepsT P w w') (hq : ∀ t, Q t → P t) : KeepsT Q w w' := fun g cur t hc ht => h g cur t hc (hq t ht)
/-- The types of a disk's blocks, a log's, a base's. -/
def Sty (t : TypeId) : Prop := t = 84 ∨ t = 9 ∨ t = 137 ∨ t = 183 ∨ t = 244 ∨ t = 143
/-- Those of the law's struct and its lists. -/
def Lty (t : TypeId) : Prop := t = 33 ∨ t = 76 ∨ t = 28
section
variable {w w' : World} {B bb bl bd bs : Nat} {pv lv lv' : Value} {ps : List (Nat × ByteArray)} {br bk : Bool} {d : Dk}
theorem DAt.keepU (h : DAt w bd bs lv d) (hk : KeepsT Sty w w') : DAt w' bd bs lv d := by
  obtain ⟨cur, hbs, _⟩ := h.sb
  refine h.kept fun q _ e => ?_
  rcases e with rfl | rfl | e
  · exact hk q _ _ h.own (.inl rfl)
  · exact hk q _ _ hbs (.inr (.inl rfl))
  · obtain ⟨c, hc⟩ := own_blk h.late e
    exact hk q c _ hc (.inr (.inr (.inl rfl)))
theorem LAt.keepU (h : LAt w bl bd pv ps br) (hk : KeepsT Sty w w') : LAt w' bl bd pv ps br := by
  refine h.kept fun q _ e => ?_
  rcases e with rfl | e
  · exact hk q _ _ h.own (.inr (.inr (.inr (.inl rfl))))
  · obtain ⟨c, hc⟩ := own_blk h.puts e
    exact hk q c _ hc (.inr (.inr (.inr (.inr (.inl rfl)))))
theorem Sys.keepU (h : Sys w B bl bd bs pv lv ps br d) (hs : w.heap.size ≤ w'.heap.size) (hk : KeepsT Sty w w') : Sys w' B bl bd bs pv lv ps br d :=
  ⟨h.log.keepU hk, h.disk.keepU hk, h.sep, Nat.le_trans h.base hs⟩
theorem BAt.keepU (h : BAt w bb bl bk) (hk : KeepsT Sty w w') : BAt w' bb bl bk := h.kept (hk bb _ _ h.own (.inr (.inr (.inr (.inr (.inr rfl))))))
theorem DAt.keepsT (h : DAt w bd bs lv d) (st : DStep bd bs lv lv' w w') : KeepsT (fun t => t ≠ 84 ∧ t ≠ 9 ∧ t ≠ 137) w w' := fun g cur t hc ht => by
  obtain ⟨c, hbs, _⟩ := h.sb
  exact st.block g (lt_of_heap hc) (ty_ne hc h.own ht.1) (ty_ne hc hbs ht.2.1) (ownsRow_ne h.late hc (Ne.symm ht.2.2))
/-- A store into the law's struct. -/
theorem keepsT_set {bw i : Nat} {cs : Array Value} {u : Value} (h : w.heap[bw]? = some (.cells cs 33 (0, 0))) : KeepsT (fun t => t ≠ 33) w (w.setCell ⟨bw, i, none⟩ u) := fun _ _ _ hc ht => Below.heap_setCell _ _ _ _ (ty_ne hc h ht)
end
theorem sty_bases {t : TypeId} (h : Sty t) : t ≠ 33 := by
  rcases h with rfl | rfl | rfl | rfl | rfl | rfl <;> decide
theorem sty_nodes {t : TypeId} (h : Sty t) : t ≠ 28 := by
  rcases h with rfl | rfl | rfl | rfl | rfl | rfl <;> decide
theorem sty_deed {t : TypeId} (h : Sty t) : t ≠ 79 := by
  rcases h with rfl | rfl | rfl | rfl | rfl | rfl <;> decide
theorem lty_disk {t : TypeId} (h : Lty t) : t ≠ 84 ∧ t ≠ 9 ∧ t ≠ 137 := by
  rcases h with rfl | rfl | rfl <;> decide

/-- What stands between two steps of the law, on a disk that is great enough. -/
structure BInv (w : World) (B bw N k : Nat) (bd bs : Nat) (xv bv ov lv : Value) (d : Dk) (tw br : Bool) (lsv : Value) (l2 : List Nd) (X : List Value) (S : List ByteArray) (pend : Option (List (Nat × ByteArray))) (M : List Pl) : Prop where
  st : St w B bw bd xv bv ov tw br lsv (nodesOf M) l2 X
  disk : DAt w bd bs lv d
  hB : B ≤ w.heap.size
  bw0 : B ≤ bw
  bd0 : B ≤ bd
  bs0 : B ≤ bs
  lv0 : ∀ g, lv.ownBlock = some g → B ≤ g
  ok : d.Ok
  fl : d.failed ≤ (k : Int)
  xl : X.length ≤ 8 * k
  n : d.safe.length = N
  sn : S.length = N
  late : d.late.length ≤ 200
  stn : Stands S pend d
  cont : Cont S M
  l2l : l2.length ≤ 1000
  two : (tw = false → pend = none) ∧ ∀ ps, pend = some ps → ∃ M2, Twos S ps M2 ∧ l2 = nodesOf M2
  base : xv = .pointer none ∨ ∃ bb bl brk, xv = .pointer (some ⟨bb, 0, none⟩) ∧ BAt w bb bl br ∧ B ≤ bb ∧ Sys w B bl bd bs (.slice none 0 0) lv [] brk d ∧ (br = false → brk = false ∧ tw = false)
def BInvE (w : World) (B bw N k : Nat) : Prop := ∃ bd bs xv bv ov lv d tw br lsv l2 X S pend M, BInv w B bw N k bd bs xv bv ov lv d tw br lsv l2 X S pend M
/-- What a step is to keep. -/
def BKp (w : World) (B bw N k : Nat) (w' : World) : Prop := BInvE w' B bw N (k + 1) ∧ Below B w w'
theorem BKp.from {w w1 w' : World} {B bw N k : Nat} (h : BKp w1 B bw N k w') (hb : Below B w w1) : BKp w B bw N k w' := ⟨h.1, hb.trans h.2⟩
section
variable {w w' : World} {B bw N k k' : Nat} {bd bs : Nat} {xv bv ov lv lv' : Value} {d d' : Dk} {tw br : Bool} {lsv : Value} {l l2 : List Nd} {X : List Value} {S : List ByteArray} {pend : Option (List (Nat × ByteArray))} {M : List Pl}
theorem BInv.below (h : BInv w B bw N k bd bs xv bv ov lv d tw br lsv l2 X S pend M) (hb : Below w.heap.size w w') : BInv w' B bw N k bd bs xv bv ov lv d tw br lsv l2 X S pend M :=
  { st := h.st.below hb, disk := h.disk.below hb, hB := Nat.le_trans h.hB hb.size, bw0 := h.bw0, bd0 := h.bd0, bs0 := h.bs0, lv0 := h.lv0, ok := h.ok, fl := h.fl, xl := h.xl, n := h.n, sn := h.sn, late := h.late, stn := h.stn, cont := h.cont, l2l := h.l2l, two := h.two,
    base := by
      rcases h.base with e | ⟨bb, bl, brk, e, b1, b2, s, r⟩
      · exact .inl e
      · exact .inr ⟨bb, bl, brk, e, b1.keepU (KeepsT.below hb), b2, s.keepU hb.size (KeepsT.below hb), r⟩ }
theorem BInv.more (h : BInv w B bw N k bd bs xv bv ov lv d tw br lsv l2 X S pend M) (hk : k ≤ k') : BInv w B bw N k' bd bs xv bv ov lv d tw br lsv l2 X S pend M :=
  { st := h.st, disk := h.disk, hB := h.hB, bw0 := h.bw0, bd0 := h.bd0, bs0 := h.bs0, lv0 := h.lv0, ok := h.ok, fl := by have := h.fl; omega, xl := by have := h.xl; omega, n := h.n, sn := h.sn, late := h.late, stn := h.stn, cont := h.cont, l2l := h.l2l, two := h.two, base := h.base }
/-- A call that turns the disk alone. -/
theorem BInv.ofDisk (h : BInv w B bw N k bd bs xv bv ov lv d tw br lsv l2 X S pend M) (hd : DAt w' bd bs lv' d') (st : DStep bd bs lv lv' w w') (ok : d'.Ok) (hf : d'.failed ≤ (k' : Int)) (hk : k ≤ k') (hn : d'.safe.length = N) (hl : d'.late.length ≤ 200) (hs : Stands S pend d') : BInv w' B bw N k' bd bs xv bv ov lv' d' tw br lsv l2 X S pend M :=
  { st := h.st.kept st.size fun g cur t hc ht => h.disk.keepsT st g cur t hc (lty_disk ht), disk := hd, hB := Nat.le_trans h.hB st.size, bw0 := h.bw0, bd0 := h.bd0, bs0 := h.bs0,
    lv0 := fun g hg => by
      rcases st.fresh g hg with e | e
      · exact h.lv0 g e
      · exact Nat.le_trans h.hB e
    ok := ok, fl := hf, xl := by have := h.xl; omega, n := hn, sn := h.sn, late := hl, stn := hs, cont := h.cont, l2l := h.l2l, two := h.two,
    base := by
      rcases h.base with e | ⟨bb, bl, brk, e, b1, b2, s, r⟩
      · exact .inl e
      · exact .inr ⟨bb, bl, brk, e, b1.kept (h.disk.keepsT st bb _ _ b1.own (by decide)), b2, (s.ofDisk hd st).1, r⟩ }
/-- The base is let go. -/
theorem St.setX (h : St w B bw bd xv bv ov tw br lsv l l2 X) (v : Value) : St (w.setCell ⟨bw, 1, none⟩ v) B bw bd v bv ov tw br lsv l l2 X :=
  ⟨heap_setCell_same w bw 1 _ _ _ h.own, h.rows h.n1 _ _, h.rows h.n2 _ _, h.ls.setOther h.own _ _⟩
theorem St.setD (h : St w B bw bd xv bv ov tw br lsv l l2 X) (b : Nat) : St (w.setCell ⟨bw, 0, none⟩ (.pointer (some ⟨b, 0, none⟩))) B bw b xv bv ov tw br lsv l l2 X :=
  ⟨heap_setCell_same w bw 0 _ _ _ h.own, h.rows h.n1 _ _, h.rows h.n2 _ _, h.ls.setOther h.own _ _⟩
theorem BInv.noBase (h : BInv w B bw N k bd bs xv bv ov lv d tw br lsv l2 X S pend M) : BInv (w.setCell ⟨bw, 1, none⟩ (.pointer none)) B bw N k bd bs (.pointer none) bv ov lv d tw br lsv l2 X S pend M :=
  { st := h.st.setX _, disk := h.disk.keepU ((keepsT_set h.st.own).weak fun _ => sty_bases), hB := by simp [World.setCell]; exact h.hB, bw0 := h.bw0, bd0 := h.bd0, bs0 := h.bs0, lv0 := h.lv0, ok := h.ok, fl := h.fl, xl := h.xl, n := h.n, sn := h.sn, late := h.late, stn := h.stn, cont := h.cont, l2l := h.l2l, two := h.two, base := .inl rfl }
end
theorem BInvE.below {w w' : World} {B bw N k : Nat} (h : BInvE w B bw N k) (hb : Below w.heap.size w w') : BInvE w' B bw N k := by
  obtain ⟨bd, bs, xv, bv, ov, lv, d, tw, br, lsv, l2, X, S, pend, M, h⟩ := h
  exact ⟨bd, bs, xv, bv, ov, lv, d, tw, br, lsv, l2, X, S, pend, M, h.below hb⟩
theorem BInvE.more {w : World} {B bw N k k' : Nat} (h : BInvE w B bw N k) (hk : k ≤ k') : BInvE w B bw N k' := by
  obtain ⟨bd, bs, xv, bv, ov, lv, d, tw, br, lsv, l2, X, S, pend, M, h⟩ := h
  exact ⟨bd, bs, xv, bv, ov, lv, d, tw, br, lsv, l2, X, S, pend, M, h.more hk⟩

theorem IntsAt.under {w w' : World} {v : Value} {ks : List Int} {B : Nat} (h : IntsAt w v ks) (hb : Below B w w') (hl : ∀ b o n c, v = .slice (some ⟨b, o, none⟩) n c → 0 < n → b < B) : IntsAt w' v ks := by
  obtain ⟨⟨ao, cap, hv, hc⟩, hr⟩ := h
  refine ⟨⟨ao, cap, hv, fun i c hi => ?_⟩, hr⟩
  obtain ⟨b, o, ha, hcell⟩ := hc i c hi
  have hlen : 0 < ks.length := by
    cases ks with
    | nil => simp at hi
    | cons => simp
  subst ha
  exact ⟨b, o, rfl, (World.cell?_of_block (hb.block b (hl b o _ _ hv hlen))).trans hcell⟩
theorem nonNeg_le {n : Int} (h : n ≤ 9223372036854775807) : 0 ≤ nonNeg n ∧ nonNeg n ≤ 9223372036854775807 := by
  unfold nonNeg
  split <;> omega
section
variable (w : World) (B bw N k : Nat) (bd bs : Nat) (xv bv ov lv : Value) (d : Dk) (tw br : Bool) (lsv : Value) (l2 : List Nd) (X : List Value) (S : List ByteArray) (pend : Option (List (Nat × ByteArray))) (M : List Pl)
theorem fail_binv (h : BInv w B bw N k bd bs xv bv ov lv d tw br lsv l2 X S pend M) (n : Int) (hn : n ≤ 9223372036854775807) :
    Calls Tryz.prog 36 #[.pointer (some ⟨bd, 0, none⟩), .int .i64 n] w fun e w' => e = .returned (.tuple #[]) ∧ BKp w B bw N k w' := by
  refine (fail_any w bd bs lv d n h.disk).mono ?_
  rintro e w' ⟨rfl, hd, st⟩
  have hz := nonNeg_le hn
  have ok := h.ok
  have hfl := h.fl
  exact ⟨rfl, ⟨bd, bs, xv, bv, ov, lv, _, tw, br, lsv, l2, X, S, pend, M, h.ofDisk (k' := k + 1) hd st ⟨by simp only; omega, by simp only; omega, ok.l0, ok.l1, ok.f0, ok.f1, ok.n, ok.lt⟩ (by simp only; omega) (by omega) h.n h.late (h.stn.wait _)⟩, st.below h.bd0 h.bs0 h.lv0 h.hB⟩
theorem die_binv (h : BInv w B bw N k bd bs xv bv ov lv d tw br lsv l2 X S pend M) (n : Int) (hn : n ≤ 9223372036854775807) :
    Calls Tryz.prog 30 #[.pointer (some ⟨bd, 0, none⟩), .int .i64 n] w fun e w' => e = .returned (.tuple #[]) ∧ BKp w B bw N k w' := by
  refine (die_all w bd bs lv d n h.disk).mono ?_
  rintro e w' ⟨rfl, hd, st⟩
  have hz := nonNeg_le hn
  have ok := h.ok
  have hfl := h.fl
  exact ⟨rfl, ⟨bd, bs, xv, bv, ov, lv, _, tw, br, lsv, l2, X, S, pend, M, h.ofDisk (k' := k + 1) hd st ⟨ok.w0, ok.w1, by simp only; omega, by simp only; omega, ok.f0, ok.f1, ok.n, ok.lt⟩ (by simp only; omega) (by omega) h.n h.late (h.stn.life _)⟩, st.below h.bd0 h.bs0 h.lv0 h.hB⟩
theorem crash_binv (h : BInv w B bw N k bd bs xv bv ov lv d tw br lsv l2 X S pend M) (kv : Value) (ks : List Int) (hk : IntsAt w kv ks) (hl : ∀ b o n c, kv = .slice (some ⟨b, o, none⟩) n c → 0 < n → b < B) :
    Calls Tryz.prog 28 #[.pointer (some ⟨bd, 0, none⟩), kv] w fun e w' => e = .returned (.tuple #[]) ∧ BKp w B bw N k w' := by
  have hlt := h.late
  have hB := h.hB
  have b1 := h.bd0
  have b2 := h.bs0
  refine (crash_any w bd bs lv kv d ks h.disk h.ok (by omega) hk ?_).mono ?_
  · intro b o n c e hn
    have := hl b o n c e hn
    exact ⟨by omega, by omega, by omega, fun e => by have := h.lv0 b e; omega⟩
  rintro e w' ⟨lv', rfl, hd, st⟩
  have ok := h.ok
  have hfl := h.fl
  have hsl : (d.crash ks).safe.length = d.safe.length := lay_len _ _
  exact ⟨rfl, ⟨bd, bs, xv, bv, ov, lv', _, tw, br, lsv, l2, X, S, pend, M, h.ofDisk (k' := k + 1) hd st ⟨by simp [Dk.crash], by simp [Dk.crash], by simp [Dk.crash], by simp [Dk.crash], ok.f0, ok.f1, by rw [hsl]; exact ok.n, by simp [Dk.crash]⟩ (by show d.failed ≤ _; omega) (by omega) (by rw [hsl]; exact h.n) (by simp [Dk.crash]) (h.stn.crash _)⟩, st.below h.bd0 h.bs0 h.lv0 h.hB⟩
end
end Go.Proofs.YtcbindgpbeaebaaGreatDoor

namespace Go.Proofs.YtcbindgpbeaebaaGreatDoor
open Go.RowKit Go.Deep

theorem nodesOf_len (M : List Pl) : (nodesOf M).length = M.length := by unfold nodesOf; exact List.length_map _
theorem rAll_len (l0 : List Nd) : ∀ (L : List Dd) (l : List Nd), OrdN l → (rAll l0 l L).1.length ≤ l.length + l0.length + L.length
  | [], l, _ => by simp [rAll]
  | x :: r, l, h => by
    obtain ⟨h1, h2⟩ := rOne_ord x h
    have ih := rAll_len l0 r (rOne l x).1 h1
    unfold rAll
    split
    · simp; omega
    · simp; omega
theorem rDo_len {l : List Nd} {L : List Dd} (h : OrdN l) (hl : l.length ≤ 60) : (rDo l L).1.length ≤ 1000 := by
  unfold rDo
  split
  · next hok =>
    have := rAll_len l L l h
    have := (okDeeds_all hok).1
    omega
  · simp; omega
theorem rowN_rowD {xs : List Ps} {M : List Pl} (h : xs.map (·.1) = M) : rowN xs = rowD (nodesOf M) ∧ xs.length = (nodesOf M).length := by
  subst h
  refine ⟨?_, by simp [nodesOf]⟩
  unfold rowN rowD nodesOf
  induction xs with
  | nil => rfl
  | cons x r ih => simp [List.flatMap_cons, ih]
theorem rdRes_eq (q : ByteArray) (M : List Pl) : rdRes q M = rRead q (nodesOf M) := by
  unfold rdRes rRead
  split
  · rw [findN_getM]
    cases getM M q <;> rfl
  · rfl
theorem rRead_form (q : ByteArray) (l : List Nd) : ∃ y f, rRead q l = .tuple #[ndV y, .int .i64 f] ∧ f ≠ 9 ∧ (okPath q = true → f ≠ 1) ∧ (okPath q = false → y = zNd ∧ f = 1) := by
  unfold rRead
  cases hok : okPath q with
  | false => exact ⟨zNd, 1, by simp, by decide, by simp, by simp⟩
  | true =>
    rw [if_pos rfl]
    cases findN l q with
    | some n => exact ⟨n, 0, rfl, by decide, by decide, by simp⟩
    | none => exact ⟨zNd, 4, rfl, by decide, by decide, by simp⟩
section
variable {w w' : World} {B bw N k k' : Nat} {bd bs bb bl : Nat} {xv bv ov lv lv' : Value} {d d' : Dk} {tw br brk : Bool} {lsv : Value} {l l2 : List Nd} {X : List Value} {S : List ByteArray} {pend : Option (List (Nat × ByteArray))} {M : List Pl}
theorem BInv.len (h : BInv w B bw N k bd bs xv bv ov lv d tw br lsv l2 X S pend M) : (nodesOf M).length ≤ 60 := by
  rw [nodesOf_len]; exact h.cont.mo.len
/-- The base is well: nothing is late, and the blocks tell its nodes. -/
theorem BInv.well (h : BInv w B bw N k bd bs xv bv ov lv d tw br lsv l2 X S pend M) (htw : tw = false) (hN : 300 ≤ N) : d.late = [] ∧ rd d.safe 0 = pad (recB []) ∧ Cont d.safe M := by
  have hst := h.stn
  have hsn := h.sn
  rw [h.two.1 htw] at hst
  exact ⟨hst.1, hst.2.1, h.cont.outA hst.2 (by omega)⟩
theorem BInv.loads (h : BInv w B bw N k bd bs xv bv ov lv d tw br lsv l2 X S pend M) (hN : 300 ≤ N) (hb : BAt w bb bl false) (s : Sys w B bl bd bs (.slice none 0 0) lv [] false d) (htw : tw = false) (hli : d.life ≠ 0) :
    ∀ W, Below w.heap.size w W → Calls Tryz.prog 76 #[.pointer (some ⟨bb, 0, none⟩)] W (LoadPost W M) := fun W hW => by
  obtain ⟨h1, h2, h3⟩ := h.well htw hN
  have hn := h.n
  have s' := s.keepU hW.size (KeepsT.below hW)
  have hv := getL_vw (d := d) (by omega) h1 hli h3.sz
  have := load_ok W bb bl bd bs (.slice none 0 0) lv [] false d (vw d) (hb.keepU (KeepsT.below hW)) s'.log s'.disk h.ok.n (by rw [h1]; simp) (by simp) hv
  rwa [h3.load] at this
theorem getL_dead {d : Dk} (hN : 300 ≤ d.safe.length) (brk : Bool) (h : d.life = 0) : getL d [] brk ((0 : Nat) : Int) = (⟨#[]⟩, 9) := by
  unfold getL
  have hb : hasB d.safe.length ((0 : Nat) : Int) ≠ false := by
    simp [hasB]
    omega
  rw [if_neg hb, if_pos (.inl h)]
theorem BInv.bad (h : BInv w B bw N k bd bs xv bv ov lv d tw br lsv l2 X S pend M) (hN : 300 ≤ N) (hb : BAt w bb bl br) (s : Sys w B bl bd bs (.slice none 0 0) lv [] brk d) (hz : d.life = 0 ∨ br = true) :
    ∀ W, Below w.heap.size w W → LoadBad W bb := fun W hW => by
  have hb' := hb.keepU (KeepsT.below hW)
  have hn := h.n
  have hl2 := h.late
  unfold LoadBad
  cases br with
  | true =>
    refine (load_broken W bb bl hb').mono ?_
    rintro e w1 ⟨he, hw⟩
    exact ⟨he, hw ▸ Below.refl _ _⟩
  | false =>
    have hz : d.life = 0 := by simpa using hz
    have s' := s.keepU hW.size (KeepsT.below hW)
    exact load_dead W bb bl bd bs (.slice none 0 0) lv [] brk d hb' s'.log s'.disk h.ok.n (by omega) (by simp) (getL_dead (by omega) brk hz)
end

/-- Behind a Do of a base that is well. -/
def DoZ (B bb bl bd bs : Nat) (M : List Pl) (L : List Dd) (d : Dk) (c : Int) (lv' : Value) (d' : Dk) (w' : World) : Prop :=
  ∃ br', BAt w' bb bl (c == 9) ∧ Sys w' B bl bd bs (.slice none 0 0) lv' [] br' d' ∧ DoSum M L d c br' d'
/-- Behind a Do of one that is not. -/
def DoY (B bb bl bd bs : Nat) (brk br : Bool) (d : Dk) (lv : Value) (c : Int) (lv' : Value) (d' : Dk) (w' : World) : Prop :=
  BAt w' bb bl (br || c == 9) ∧ Sys w' B bl bd bs (.slice none 0 0) lv [] brk d ∧ d' = d ∧ lv' = lv ∧ (c = 1 ∨ c = 9)
theorem keepsDB {W W' : World} (hk : ∀ (g : Nat) (cur : Array Value) (t : TypeId), W.heap[g]? = some (.cells cur t (0, 0)) → t ≠ 79 → t ≠ 33 → W'.heap[g]? = W.heap[g]?) : KeepsT Sty W W' := fun g cur t hc ht => hk g cur t hc (sty_deed ht) (sty_bases ht)
theorem DoZ.keep {B bb bl bd bs : Nat} {M : List Pl} {L : List Dd} {d : Dk} (c : Int) (lv' : Value) (d' : Dk) (W W' : World) (h : DoZ B bb bl bd bs M L d c lv' d' W) (hs : W.heap.size ≤ W'.heap.size) (hk : ∀ (g : Nat) (cur : Array Value) (t : TypeId), W.heap[g]? = some (.cells cur t (0, 0)) → t ≠ 79 → t ≠ 33 → W'.heap[g]? = W.heap[g]?) : DoZ B bb bl bd bs M L d c lv' d' W' := by
  obtain ⟨br', h1, h2, h3⟩ := h
  exact ⟨br', h1.keepU (keepsDB hk), h2.keepU hs (keepsDB hk), h3⟩
theorem DoY.keep {B bb bl bd bs : Nat} {brk br : Bool} {d : Dk} {lv : Value} (c : Int) (lv' : Value) (d' : Dk) (W W' : World) (h : DoY B bb bl bd bs brk br d lv c lv' d' W) (hs : W.heap.size ≤ W'.heap.size) (hk : ∀ (g : Nat) (cur : Array Value) (t : TypeId), W.heap[g]? = some (.cells cur t (0, 0)) → t ≠ 79 → t ≠ 33 → W'.heap[g]? = W.heap[g]?) : DoY B bb bl bd bs brk br d lv c lv' d' W' := by
  obtain ⟨h1, h2, h3⟩ := h
  exact ⟨h1.keepU (keepsDB hk), h2.keepU hs (keepsDB hk), h3⟩
theorem rDo_nil (l : List Nd) : rDo l [] = (l, 0) := by
  unfold rDo
  rw [if_pos (by decide)]
  rfl

section
variable (w : World) (B bw N k : Nat) (bd bs bb bl : Nat) (bv ov lv : Value) (d : Dk) (tw br brk : Bool) (lsv : Value) (l2 : List Nd) (X : List Value) (S : List ByteArray) (pend : Option (List (Nat × ByteArray))) (M : List Pl)
theorem does_well (h : BInv w B bw N k bd bs (.pointer (some ⟨bb, 0, none⟩)) bv ov lv d tw br lsv l2 X S pend M) (hN : 300 ≤ N) (hk9 : k ≤ 1048576) (hb : BAt w bb bl false) (hbb : B ≤ bb) (s : Sys w B bl bd bs (.slice none 0 0) lv [] false d) (htw : tw = false) (hbr : br = false) (hli : d.life ≠ 0)
    (v : Value) (L : List Dd) (hv : DIn w v L) (hL : L.length ≤ 2000000) (hpz : ∀ x ∈ L, x.node.path.size ≤ 4611686018427387903) (hlow : ∀ b o n c, v = .slice (some ⟨b, o, none⟩) n c → 0 < n → b < B) :
    Calls Tryz.prog 37 #[.pointer (some ⟨bw, 0, none⟩), v] w fun e w' => e = .returned (.bool true) ∧ BKp w B bw N k w' := by
  obtain ⟨g1, g2, g3⟩ := h.well htw hN
  have hn := h.n
  have hfl := h.fl
  have hxl := h.xl
  subst hbr
  subst htw
  have hpn : pend = none := h.two.1 rfl
  have hsum : ∀ {c br' d'}, DoEnd (loadM (vw d) 60) L d c br' d' → DoSum M L d c br' d' := fun {c br' d'} he => by
    rw [g3.load] at he
    exact he.sum g3 h.ok g1 g2 (by omega) (by omega)
  refine (does_walk w B bw bd bs bb bv ov lv false false lsv (nodesOf M) l2 X v L d (DoZ B bb bl bd bs M L d) h.st h.hB h.bw0 h.disk hv hL hpz h.len h.cont.mo.ord.nodes hlow ?_ (fun c lv' d' W W' => DoZ.keep c lv' d' W W')).mono ?_
  · intro W pv hW hds
    have sW := s.keepU hW.size (KeepsT.below hW)
    have bW := hb.keepU (KeepsT.below hW)
    refine (do_any W B bb bl bd bs lv d pv L bW hbb sW h.ok (by omega) g1 hli g3.sz hds (fun x hx => by have := hpz x hx; omega) (by omega)).mono ?_
    rintro e w' ⟨c, lv', br', d', he, hba, hsy, hbe, hst, hde⟩
    have hs := hsum hde
    refine ⟨c, lv', d', he, ends_sum hs hli, hsy.disk, ⟨br', hba, hsy, hs⟩, hbe, fun g cur t hc ht => ?_⟩
    obtain ⟨cs, hbs, _⟩ := sW.disk.sb
    have ht' : t ≠ 143 ∧ t ≠ 183 ∧ t ≠ 84 ∧ t ≠ 9 ∧ t ≠ 137 := by rcases ht with rfl | rfl | rfl | rfl <;> decide
    exact hst.block g (lt_of_heap hc) (ty_ne hc bW.own ht'.1) (ty_ne hc sW.log.own ht'.2.1) (ty_ne hc sW.disk.own ht'.2.2.1) (ty_ne hc hbs ht'.2.2.2.1) (ownsRow_ne sW.disk.late hc (Ne.symm ht'.2.2.2.2))
  · rintro e w' ⟨c, lv', d', hen, hd', ⟨br', hba, hsy, hsm⟩, hbe⟩
    have hsn : d.safe.length = S.length := by rw [hn, h.sn]
    cases hen with
    | same hc he hs =>
      cases hsm with
      | err e0 e9 ed eb er =>
        subst ed
        subst eb
        have e9' : (c == 9) = false := by simpa using e9
        rw [e9'] at hba
        refine ⟨he, ⟨bd, bs, .pointer (some ⟨bb, 0, none⟩), bv, ov, lv', d', false, false, lsv, l2, X, S, pend, M, ?_⟩, hbe⟩
        exact { st := hs, disk := hsy.disk, hB := hsy.base, bw0 := h.bw0, bd0 := h.bd0, bs0 := h.bs0, lv0 := hsy.sep.bv0, ok := h.ok, fl := by omega, xl := by omega, n := hn, sn := h.sn, late := h.late, stn := h.stn, cont := h.cont, l2l := h.l2l, two := h.two, base := .inr ⟨bb, bl, false, rfl, hba, hbb, hsy, fun _ => ⟨rfl, rfl⟩⟩ }
      | ok M1 e0 eb er ec el eclr eok ef en =>
        subst e0
        subst eb
        have hL0 : L = [] := by
          rcases hc with ⟨_, h1⟩ | ⟨_, h1, _⟩ | ⟨h0, _, h1, _⟩ | ⟨_, _, h1⟩
          · cases h1
          · cases h1
          · exact absurd h1.symm h0
          · exact h1
        subst hL0
        rw [rDo_nil] at er
        have hMM : nodesOf M = nodesOf M1 := by
          simp only [Prod.mk.injEq, and_true] at er
          exact er
        rw [hMM] at hs
        refine ⟨he, ⟨bd, bs, .pointer (some ⟨bb, 0, none⟩), bv, ov, lv', d', false, false, lsv, l2, X, d'.safe, none, M1, ?_⟩, hbe⟩
        exact { st := hs, disk := hsy.disk, hB := hsy.base, bw0 := h.bw0, bd0 := h.bd0, bs0 := h.bs0, lv0 := hsy.sep.bv0, ok := eok, fl := by omega, xl := by omega, n := by omega, sn := by omega, late := by rw [el]; simp, stn := ⟨el, eclr, fun _ _ => rfl⟩, cont := ec, l2l := h.l2l, two := ⟨fun _ => rfl, fun ps e => by cases e⟩, base := .inr ⟨bb, bl, false, rfl, hba, hbb, hsy, fun _ => ⟨rfl, rfl⟩⟩ }
      | bad M1 ps e9 _ _ _ _ _ _ _ _ _ _ _ _ _ =>
        subst e9
        rcases hc with ⟨_, h1⟩ | ⟨_, _, h1⟩ | ⟨_, _, _, h1⟩ | ⟨_, h1, _⟩
        · cases h1
        · cases h1
        · exact absurd rfl h1
        · cases h1
    | stead hc he hs => exact absurd hc.2.2.2.2 hli
    | fail nv hc he hs =>
      obtain ⟨hr0, hc9, _, _⟩ := hc
      cases hsm with
      | err e0 e9 ed eb er => exact absurd hc9 e9
      | ok M1 e0 eb er ec el eclr eok ef en => rw [hc9] at e0; cases e0
      | bad M1 ps e9 eb er et ep ep0 ep80 elt ez eok ef ef1 en el =>
        subst e9
        rw [er] at hs
        refine ⟨he, ⟨bd, bs, .pointer (some ⟨bb, 0, none⟩), bv, nv, lv', d', true, true, lsv, nodesOf M1, X, d.safe, some ps, M, ?_⟩, hbe⟩
        exact { st := hs, disk := hsy.disk, hB := hsy.base, bw0 := h.bw0, bd0 := h.bd0, bs0 := h.bs0, lv0 := hsy.sep.bv0, ok := eok, fl := by omega, xl := by omega, n := by omega, sn := hn, late := by omega, stn := ⟨ep, ep0, ep80, elt, ez⟩, cont := g3, l2l := by (rw [nodesOf_len]; have := et.mo.len; omega), two := ⟨fun e => (by cases e), fun qs e => by (cases e; exact ⟨M1, et, rfl⟩)⟩, base := .inr ⟨bb, bl, br', rfl, hba, hbb, hsy, fun e => by cases e⟩ }
    | done nv hc he hs =>
      obtain ⟨hr0, hc0, _, _, _⟩ := hc
      subst hc0
      cases hsm with
      | err e0 e9 ed eb er => exact absurd rfl e0
      | ok M1 e0 eb er ec el eclr eok ef en =>
        subst eb
        rw [er] at hs
        refine ⟨he, ⟨bd, bs, .pointer (some ⟨bb, 0, none⟩), nv, ov, lv', d', false, false, lsv, l2, X, d'.safe, none, M1, ?_⟩, hbe⟩
        exact { st := hs, disk := hsy.disk, hB := hsy.base, bw0 := h.bw0, bd0 := h.bd0, bs0 := h.bs0, lv0 := hsy.sep.bv0, ok := eok, fl := by omega, xl := by omega, n := by omega, sn := by omega, late := by rw [el]; simp, stn := ⟨el, eclr, fun _ _ => rfl⟩, cont := ec, l2l := h.l2l, two := ⟨fun _ => rfl, fun ps e => by cases e⟩, base := .inr ⟨bb, bl, false, rfl, hba, hbb, hsy, fun _ => ⟨rfl, rfl⟩⟩ }
      | bad M1 ps e9 _ _ _ _ _ _ _ _ _ _ _ _ _ => cases e9

theorem does_bad (h : BInv w B bw N k bd bs (.pointer (some ⟨bb, 0, none⟩)) bv ov lv d tw br lsv l2 X S pend M) (hN : 300 ≤ N) (hb : BAt w bb bl br) (hbb : B ≤ bb) (s : Sys w B bl bd bs (.slice none 0 0) lv [] brk d) (hbt : br = false → brk = false ∧ tw = false) (hz : d.life = 0 ∨ br = true)
    (v : Value) (L : List Dd) (hv : DIn w v L) (hL : L.length ≤ 2000000) (hpz : ∀ x ∈ L, x.node.path.size ≤ 4611686018427387903) (hlow : ∀ b o n c, v = .slice (some ⟨b, o, none⟩) n c → 0 < n → b < B) :
    Calls Tryz.prog 37 #[.pointer (some ⟨bw, 0, none⟩), v] w fun e w' => e = .returned (.bool true) ∧ BKp w B bw N k w' := by
  have hn := h.n
  have hfl := h.fl
  have hxl := h.xl
  have hends : okDeeds L = true → Ends br L d d 9 (rDo (nodesOf M) L) := fun hok => by
    cases br with
    | true => exact ends_broken hok
    | false => exact ends_dead hok (by simpa using hz)
  refine (does_walk w B bw bd bs bb bv ov lv tw br lsv (nodesOf M) l2 X v L d (DoY B bb bl bd bs brk br d lv) h.st h.hB h.bw0 h.disk hv hL hpz h.len h.cont.mo.ord.nodes hlow ?_ (fun c lv' d' W W' => DoY.keep c lv' d' W W')).mono ?_
  · intro W pv hW hds
    have sW := s.keepU hW.size (KeepsT.below hW)
    have bW := hb.keepU (KeepsT.below hW)
    have hBW : B ≤ W.heap.size := sW.base
    refine (do_bad W bb bl br pv L bW (fun w1 h1 => h.bad hN hb s hz w1 (hW.trans (h1.mono hW.size))) hds (fun x hx => by have := hpz x hx; omega) (by omega)).mono ?_
    rintro e w' (⟨hok, he, hbe⟩ | ⟨hok, he, w2, hbe, rfl⟩)
    · refine ⟨1, lv, d, he, ends_arg hok, sW.disk.below hbe, ⟨?_, sW.keepU hbe.size (KeepsT.below hbe), rfl, rfl, .inl rfl⟩, hbe.mono hBW, fun g cur t hc _ => hbe.block g (lt_of_heap hc)⟩
      rw [show (br || (1 : Int) == 9) = br by simp]
      exact bW.keepU (KeepsT.below hbe)
    · have b2 := bW.keepU (KeepsT.below hbe)
      have s2 := sW.keepU hbe.size (KeepsT.below hbe)
      have s3 := s2.setB b2 (.bool true)
      refine ⟨9, lv, d, he, hends hok, s3.disk, ⟨?_, s3, rfl, rfl, .inr rfl⟩, (hbe.mono hBW).setCell (p := ⟨bb, 1, none⟩) hbb _, fun g cur t hc ht => ?_⟩
      · rw [show (br || (9 : Int) == 9) = true by simp]
        exact b2.set true
      · have hc2 := (hbe.block g (lt_of_heap hc)).trans hc
        rw [Below.heap_setCell _ _ _ _ (ty_ne hc2 b2.own (by rcases ht with rfl | rfl | rfl | rfl <;> decide))]
        exact hbe.block g (lt_of_heap hc)
  · rintro e w' ⟨c, lv', d', hen, hd', ⟨hba, hsy, hdd, hll, hcc⟩, hbe⟩
    subst hdd
    subst hll
    cases hen with
    | same hc he hs =>
      have hbk : (br || c == 9) = br := by
        rcases hc with ⟨_, h1⟩ | ⟨_, _, h1⟩ | ⟨_, h1, h2, h3⟩ | ⟨_, h1, _⟩
        · subst h1; simp
        · subst h1; simp
        · rcases hcc with rfl | rfl
          · exact absurd h2.symm h1
          · exact absurd rfl h3
        · subst h1; rcases hcc with e | e <;> cases e
      rw [hbk] at hba
      refine ⟨he, ⟨bd, bs, .pointer (some ⟨bb, 0, none⟩), bv, ov, lv', d', tw, br, lsv, l2, X, S, pend, M, ?_⟩, hbe⟩
      exact { st := hs, disk := hsy.disk, hB := hsy.base, bw0 := h.bw0, bd0 := h.bd0, bs0 := h.bs0, lv0 := h.lv0, ok := h.ok, fl := by omega, xl := by omega, n := hn, sn := h.sn, late := h.late, stn := h.stn, cont := h.cont, l2l := h.l2l, two := h.two, base := .inr ⟨bb, bl, brk, rfl, hba, hbb, hsy, hbt⟩ }
    | stead hc he hs =>
      obtain ⟨_, _, rfl, _, _⟩ := hc
      rw [show (br || (9 : Int) == 9) = true by simp] at hba
      refine ⟨he, ⟨bd, bs, .pointer (some ⟨bb, 0, none⟩), bv, ov, lv', d', tw, true, lsv, l2, X, S, pend, M, ?_⟩, hbe⟩
      exact { st := hs, disk := hsy.disk, hB := hsy.base, bw0 := h.bw0, bd0 := h.bd0, bs0 := h.bs0, lv0 := h.lv0, ok := h.ok, fl := by omega, xl := by omega, n := hn, sn := h.sn, late := h.late, stn := h.stn, cont := h.cont, l2l := h.l2l, two := h.two, base := .inr ⟨bb, bl, brk, rfl, hba, hbb, hsy, fun e => by cases e⟩ }
    | fail nv hc he hs =>
      obtain ⟨hr0, rfl, hbf, _⟩ := hc
      rw [show (br || (9 : Int) == 9) = true by simp] at hba
      have hpn : pend = none := h.two.1 (hbt hbf).2
      refine ⟨he, ⟨bd, bs, .pointer (some ⟨bb, 0, none⟩), bv, nv, lv', d', true, true, lsv, (rDo (nodesOf M) L).1, X, S, pend, M, ?_⟩, hbe⟩
      exact { st := hs, disk := hsy.disk, hB := hsy.base, bw0 := h.bw0, bd0 := h.bd0, bs0 := h.bs0, lv0 := h.lv0, ok := h.ok, fl := by omega, xl := by omega, n := hn, sn := h.sn, late := h.late, stn := h.stn, cont := h.cont, l2l := rDo_len h.cont.mo.ord.nodes h.len, two := ⟨fun e => (by cases e), fun qs e => by (rw [hpn] at e; cases e)⟩, base := .inr ⟨bb, bl, brk, rfl, hba, hbb, hsy, fun e => by cases e⟩ }
    | done nv hc he hs =>
      obtain ⟨_, h1, _⟩ := hc
      subst h1
      rcases hcc with e | e <;> cases e
end
end Go.Proofs.YtcbindgpbeaebaaGreatDoor

namespace Go.Proofs.YtcbindgpbeaebaaGreatDoor
open Go.RowKit Go.Deep

theorem OutPost.keeps {w w' : World} {B bw bd : Nat} {xv bv ov : Value} {tw br : Bool} {lsv : Value} {l l2 : List Nd} {X : List Value} (h : St w B bw bd xv bv ov tw br lsv l l2 X) (hlo : ∀ k, k < w.heap.size → k ≠ bw → lsv.ownBlock ≠ some k → w'.heap[k]? = w.heap[k]?) : KeepsT Sty w w' := fun g _ _ hc ht =>
  hlo g (lt_of_heap hc) (ty_ne hc h.own (sty_bases ht)) (ownsRow_ne h.ls.outer hc (Ne.symm (sty_nodes ht)))

section
variable (w : World) (B bw N k : Nat) (bd bs bb bl : Nat) (bv ov lv : Value) (d : Dk) (tw br brk : Bool) (lsv : Value) (l2 : List Nd) (X : List Value) (S : List ByteArray) (pend : Option (List (Nat × ByteArray))) (M : List Pl)
theorem nodes_binv (h : BInv w B bw N k bd bs (.pointer (some ⟨bb, 0, none⟩)) bv ov lv d tw br lsv l2 X S pend M) (hN : 300 ≤ N) (hk9 : k ≤ 1048576) (hb : BAt w bb bl br) (hbb : B ≤ bb) (s : Sys w B bl bd bs (.slice none 0 0) lv [] brk d) (hbt : br = false → brk = false ∧ tw = false) (n : Int) (q : ByteArray) (lo : Option Addr) (ln lc : Nat) (ko : Option Addr) (kn kc : Nat) :
    Calls Tryz.prog 13 #[.pointer (some ⟨bw, 0, none⟩), .agg #[.int .i64 3, .int .i64 n, .string q, .slice lo ln lc, .slice ko kn kc]] w fun e w' => e = .returned (.bool true) ∧ BKp w B bw N k w' := by
  have hxl := h.xl
  have hlen := h.len
  have hfl := h.fl
  have fin : ∀ e w', OutPost w B bw bd (.pointer (some ⟨bb, 0, none⟩)) bv ov tw br lsv (nodesOf M) l2 X e w' → e = .returned (.bool true) ∧ BKp w B bw N k w' := by
    rintro e w' ⟨he, ls2, X2, hs, hx2, hbe, hlo⟩
    have hk := OutPost.keeps h.st hlo
    refine ⟨he, ⟨bd, bs, .pointer (some ⟨bb, 0, none⟩), bv, ov, lv, d, tw, br, ls2, l2, X2, S, pend, M, ?_⟩, hbe⟩
    exact { st := hs, disk := h.disk.keepU hk, hB := Nat.le_trans h.hB hbe.size, bw0 := h.bw0, bd0 := h.bd0, bs0 := h.bs0, lv0 := h.lv0, ok := h.ok, fl := by omega, xl := by omega, n := h.n, sn := h.sn, late := h.late, stn := h.stn, cont := h.cont, l2l := h.l2l, two := h.two, base := .inr ⟨bb, bl, brk, rfl, hb.keepU hk, hbb, s.keepU hbe.size hk, hbt⟩ }
  by_cases hz : d.life = 0 ∨ br = true
  · refine (bstep_nodes w B bw bd bs bb bv ov lv tw br lsv (nodesOf M) l2 X d n q lo ln lc ko kn kc h.st h.hB h.bw0 h.disk (by omega) hlen 9 [] (by simp) (.inr ⟨rfl, rfl, hz⟩) ?_).mono fin
    intro W hW
    refine (nodes_bad W bb (h.bad hN hb s hz W hW)).mono ?_
    rintro e w' ⟨he, hbe⟩
    exact ⟨_, he, World.ownsRow_nil _ _ _ _, hbe⟩
  · have hli : d.life ≠ 0 := fun e => hz (.inl e)
    have hbr : br = false := by
      cases br
      · rfl
      · exact absurd (.inr rfl) hz
    obtain ⟨hbk, htw⟩ := hbt hbr
    subst hbr
    subst hbk
    refine (bstep_nodes w B bw bd bs bb bv ov lv tw false lsv (nodesOf M) l2 X d n q lo ln lc ko kn kc h.st h.hB h.bw0 h.disk (by omega) hlen 0 (nodesOf M) hlen (.inl ⟨rfl, rfl⟩) ?_).mono fin
    intro W hW
    refine (nodes_load W bb M h.cont.mo.slot h.cont.mo.len (h.loads hN hb s htw hli W hW)).mono ?_
    rintro e w' ⟨v, xs, he, hxs, hr, hbe⟩
    obtain ⟨e1, e2⟩ := rowN_rowD hxs
    rw [e1, e2] at hr
    exact ⟨v, he, hr, hbe⟩
theorem read_binv (h : BInv w B bw N k bd bs (.pointer (some ⟨bb, 0, none⟩)) bv ov lv d tw br lsv l2 X S pend M) (hN : 300 ≤ N) (hb : BAt w bb bl br) (s : Sys w B bl bd bs (.slice none 0 0) lv [] brk d) (hbt : br = false → brk = false ∧ tw = false) (n : Int) (q : ByteArray) (hq : q.size ≤ 4611686018427387903) (lo : Option Addr) (ln lc : Nat) (ko : Option Addr) (kn kc : Nat) :
    Calls Tryz.prog 13 #[.pointer (some ⟨bw, 0, none⟩), .agg #[.int .i64 4, .int .i64 n, .string q, .slice lo ln lc, .slice ko kn kc]] w fun e w' => e = .returned (.bool true) ∧ BKp w B bw N k w' := by
  have hlen := h.len
  have fin : ∀ (e : Ending) (w' : World), e = .returned (.bool true) ∧ Below w.heap.size w w' → e = .returned (.bool true) ∧ BKp w B bw N k w' := by
    rintro e w' ⟨he, hbe⟩
    exact ⟨he, ⟨bd, bs, .pointer (some ⟨bb, 0, none⟩), bv, ov, lv, d, tw, br, lsv, l2, X, S, pend, M, (h.below hbe).more (by omega)⟩, hbe.mono h.hB⟩
  obtain ⟨y, f, hy, hf9, hf1, hfa⟩ := rRead_form q (nodesOf M)
  by_cases hz : d.life = 0 ∨ br = true
  · cases hok : okPath q with
    | true =>
      refine (bstep_read w B bw bd bs bb bv ov lv tw br lsv (nodesOf M) l2 X d n q lo ln lc ko kn kc h.st h.disk hlen hq 9 f zNd y hy (.inr ⟨rfl, rfl, hf1 hok, hz⟩) ?_).mono fin
      intro W hW
      refine (read_bad W bb q (by omega) fun w1 h1 => h.bad hN hb s hz w1 (hW.trans (h1.mono hW.size))).mono ?_
      rintro e w' ⟨he, hbe⟩
      rw [hok, if_pos rfl] at he
      exact ⟨he, hbe⟩
    | false =>
      obtain ⟨rfl, rfl⟩ := hfa hok
      refine (bstep_read w B bw bd bs bb bv ov lv tw br lsv (nodesOf M) l2 X d n q lo ln lc ko kn kc h.st h.disk hlen hq 1 1 zNd zNd hy (.inl ⟨by decide, rfl, rfl⟩) ?_).mono fin
      intro W hW
      refine (read_bad W bb q (by omega) fun w1 h1 => h.bad hN hb s hz w1 (hW.trans (h1.mono hW.size))).mono ?_
      rintro e w' ⟨he, hbe⟩
      rw [hok, if_neg (by simp)] at he
      exact ⟨he, hbe⟩
  · have hli : d.life ≠ 0 := fun e => hz (.inl e)
    have hbr : br = false := by
      cases br
      · rfl
      · exact absurd (.inr rfl) hz
    obtain ⟨hbk, htw⟩ := hbt hbr
    subst hbr
    subst hbk
    refine (bstep_read w B bw bd bs bb bv ov lv tw false lsv (nodesOf M) l2 X d n q lo ln lc ko kn kc h.st h.disk hlen hq f f y y hy (.inl ⟨hf9, rfl, rfl⟩) ?_).mono fin
    intro W hW
    have hM := h.cont.mo.len
    refine (read_load W bb q M (by omega) h.cont.mo.ord (by omega) fun w1 h1 => h.loads hN hb s htw hli w1 (hW.trans (h1.mono hW.size))).mono ?_
    rintro e w' ⟨he, hbe⟩
    rw [rdRes_eq, hy] at he
    exact ⟨he, hbe⟩
end
end Go.Proofs.YtcbindgpbeaebaaGreatDoor

namespace Go.Proofs.YtcbindgpbeaebaaGreatDoor
open Go.RowKit Go.Deep
attribute [local go_sem ↓] Go.wp_at_zero Go.wp_at_succ

/-- What Open is to find of a disk. -/
structure OpenIn (d : Dk) (psR : List (Nat × ByteArray)) : Prop where
  len : psR.length ≤ 80
  lt : ∀ p ∈ psR, 90 + p.1 < d.safe.length
  tells : d.flush.1 = true → Tells (d.flush.2.read 0) psR
  room : ∀ p ∈ inRoom d.flush.2 0 psR, p.2.size ≤ 256
/-- What a base that was opened has. -/
structure OpenOut (N : Nat) (D : Dk) (M : List Pl) : Prop where
  life : D.life ≠ 0
  ok : D.Ok
  n : D.safe.length = N
  late : D.late = []
  clr : rd D.safe 0 = pad (recB [])
  cont : Cont D.safe M
theorem crash_same (D : Dk) (ok : D.Ok) (c : Nat) (hl : D.late = []) (h0 : rd D.safe 0 = pad (recB [])) :
    (({ D with cap := c } : Dk).crash []).Ok ∧ (({ D with cap := c } : Dk).crash []).late = [] ∧ (({ D with cap := c } : Dk).crash []).safe = D.safe ∧ ((({ D with cap := c } : Dk).crash []).redo [] = (true, ({ D with cap := c } : Dk).crash []) ∧ (({ D with cap := c } : Dk).crash []).life = -1) ∧ ((({ D with cap := c } : Dk).crash []).flush.1 = true → Tells ((({ D with cap := c } : Dk).crash []).flush.2.read 0) []) := by
  have h := holds_crash D D.safe none ok c ⟨hl, .inl ⟨h0, fun _ _ => rfl⟩⟩
  exact ⟨h.1, h.2.1, h.2.2.1, ⟨h.2.2.2.1, rfl⟩, h.2.2.2.2⟩
/-- Behind a crash a copy has the same. -/
theorem OpenOut.crash {N : Nat} {D : Dk} {M : List Pl} (h : OpenOut N D M) (c : Nat) : ∃ E, ({ D with cap := c } : Dk).crash [] = E ∧ OpenOut N E M ∧ OpenIn E [] ∧ E.redo [] = (true, E) := by
  obtain ⟨h1, h2, h3, ⟨h4, h5⟩, h6⟩ := crash_same D h.ok c h.late h.clr
  refine ⟨_, rfl, ⟨by rw [h5]; decide, h1, by rw [h3]; exact h.n, h2, by rw [h3]; exact h.clr, by rw [h3]; exact h.cont⟩, ⟨by simp, by simp, h6, by simp [inRoom]⟩, h4⟩
/-- Nodes, of a base that is well. -/
theorem nodes_of (w : World) (B bb bl bd bs N : Nat) (lv : Value) (D : Dk) (M : List Pl) (hb : BAt w bb bl false) (s : Sys w B bl bd bs (.slice none 0 0) lv [] false D) (ho : OpenOut N D M) (hN : 300 ≤ N) :
    Calls Tryz.prog 39 #[.pointer (some ⟨bb, 0, none⟩)] w fun e w' => ∃ v, e = .returned (.tuple #[v, .int .i64 0]) ∧ w'.ownsRow w.heap.size 76 5 v (nodesOf M).length (rowD (nodesOf M)) ∧ Below w.heap.size w w' := by
  have hn := ho.n
  have hv := getL_vw (d := D) (by omega) ho.late ho.life ho.cont.sz
  have hld := load_ok w bb bl bd bs (.slice none 0 0) lv [] false D (vw D) hb s.log s.disk ho.ok.n (by rw [ho.late]; simp) (by simp) hv
  rw [ho.cont.load] at hld
  refine (nodes_load w bb M ho.cont.mo.slot ho.cont.mo.len hld).mono ?_
  rintro e w' ⟨v, xs, he, hxs, hr, hbe⟩
  obtain ⟨e1, e2⟩ := rowN_rowD hxs
  rw [e1, e2] at hr
  exact ⟨v, he, hr, hbe⟩
/-- 'keep', of a list that was handed out since. -/
theorem keep_st (w w1 : World) (B bw bd : Nat) (xv bv ov : Value) (tw br : Bool) (lsv : Value) (l l2 : List Nd) (X : List Value) (v : Value) (m : List Nd) (h : St w B bw bd xv bv ov tw br lsv l l2 X) (h1 : Below w.heap.size w w1) (hv : w1.ownsRow w.heap.size 76 5 v m.length (rowD m)) (hm : m.length ≤ 90) (hB : B ≤ w.heap.size) (hbw : B ≤ bw) (hX : X.length + 4 ≤ 100000000) :
    Calls Tryz.prog 42 #[.pointer (some ⟨bw, 0, none⟩), v] w1 fun e w' => e = .returned (.tuple #[]) ∧ ∃ ls2 X2, St w' B bw bd xv bv ov tw br ls2 l l2 X2 ∧ X2.length = X.length + 4 ∧ KeepsT Sty w w' ∧ w.heap.size ≤ w'.heap.size ∧ Below B w w' := by
  have s1 := h.below h1
  have hlt := lt_of_heap h.own
  refine (keep_any w1 w.heap.size B bw bd xv bv ov tw br lsv X v m.length (rowD m) s1.own s1.ls hX hv hm h1.size (Nat.le_trans hB h1.size) hlt h.ls.low).mono ?_
  intro e w' hk
  obtain ⟨he, ls2, X2, hs, hx, hsz, ho, ht, hp, hlo⟩ := h.keep (Nat.le_refl _) h1 hk
  have hsz1 := h1.size
  have hlow : ∀ q, q < w.heap.size → q ≠ bw → lsv.ownBlock ≠ some q → w'.heap[q]? = w.heap[q]? := fun q hq g1 g2 => (hlo q hq g1 g2).trans (h1.block q hq)
  refine ⟨he, ls2, X2, hs, hx, OutPost.keeps h hlow, by omega, ⟨ho.trans h1.os, ht.trans h1.tape, hp.trans h1.output, by omega, fun q hq => hlow q (by omega) (by omega) fun e => ?_⟩⟩
  have := (h.ls.outer.lt q e).1
  omega

set_option maxRecDepth 100000 in
set_option maxHeartbeats 6400000 in
theorem bopens_fail (w : World) (B bw bd bs : Nat) (xv bv ov lv : Value) (d : Dk) (tw br : Bool) (lsv : Value) (l l2 : List Nd) (XL : List Value) (X : Dk → Prop) (h : DAt w bd bs lv d) (hst : St w B bw bd xv bv ov tw br lsv l l2 XL) (hB : B ≤ w.heap.size) (hBw : B ≤ bw)
    (ok : d.Ok) (hs : 300 ≤ d.safe.length) (hll : d.late.length ≤ 800000)
    (hop : ∀ c, ∃ psR b D, OpenIn { d with cap := c } psR ∧ ({ d with cap := c } : Dk).redo psR = (b, D) ∧ (b = false ∨ D.life = 0) ∧ (d.failed < D.failed ∨ D.life = 0) ∧ D.safe.length = d.safe.length ∧ X D) :
    Calls Tryz.prog 35 #[.pointer (some ⟨bw, 0, none⟩)] w fun e w' => ∃ D bd' bs' lv', e = .returned (.bool true) ∧ X D ∧ DAt w' bd' bs' lv' D ∧ St w' B bw bd' (.pointer none) bv ov tw br lsv l l2 XL ∧ Below B w w' ∧ B ≤ bd' ∧ B ≤ bs' ∧ ∀ g, lv'.ownBlock = some g → B ≤ g := by
  obtain ⟨⟨x0, x1, _, _, _, _, _⟩, xz⟩ := bcell hst.own
  have hn := ok.n
  have HST := hide hst
  have HOP := hide hop
  clear hst hop
  go_enter Tryz.func35, Tryz.ntmps35
  go_wp2_with fail
  refine (copy_any w bd bs lv d h (by omega) hn (by omega)).mono ?_
  rintro e w1 ⟨bs1, lv1, c, rfl, d1, b1, lb1, lv1b⟩
  obtain ⟨psR, b, D, oi, o5, o6, o7, o8, o9⟩ := (unhide HOP) c
  have h1 := (unhide HST).below b1
  obtain ⟨⟨y0, y1, _, _, _, _, _⟩, yz⟩ := bcell h1.own
  have hA := h1.setD w.heap.size
  have dA := d1.keepU ((keepsT_set h1.own (i := 0) (u := .pointer (some ⟨w.heap.size, 0, none⟩))).weak fun _ => sty_bases)
  have hK := hA.setX (.pointer none)
  have dB := dA.keepU ((keepsT_set hA.own (i := 1) (u := .pointer none)).weak fun _ => sty_bases)
  have bB := ((b1.mono hB).setCell hBw (.pointer (some ⟨w.heap.size, 0, none⟩)) (p := ⟨bw, 0, none⟩)).setCell hBw (.pointer none) (p := ⟨bw, 1, none⟩)
  have szB : ((w1.setCell ⟨bw, 0, none⟩ (.pointer (some ⟨w.heap.size, 0, none⟩))).setCell ⟨bw, 1, none⟩ (.pointer none)).heap.size = w1.heap.size := by simp [World.setCell]
  have s01 := b1.size
  have HDB := hide dB
  have HK := hide hK
  have HBB := hide bB
  have HSZ := hide szB
  have HOI := hide oi
  have HO5 := hide o5
  have HO6 := hide o6
  have HO7 := hide o7
  have HO8 := hide o8
  have HO9 := hide o9
  clear hA dA hK dB bB szB oi o5 o6 o7 o8 o9 h1 d1 b1 x0 x1 xz HOP
  go_wp2_with fail
  generalize hWB : (w1.setCell ⟨bw, 0, none⟩ (.pointer (some ⟨w.heap.size, 0, none⟩))).setCell ⟨bw, 1, none⟩ (.pointer none) = wB at HDB HK HBB HSZ ⊢
  clear hWB
  obtain ⟨⟨z0, z1, _, _, _, _, _⟩, zz⟩ := bcell (unhide HK).own
  clear y0 y1 yz
  refine (dead_any wB w.heap.size bs1 lv1 { d with cap := c } (unhide HDB)).mono ?_
  rintro e w2 ⟨rfl, hw2⟩
  have hw2 := hw2.symm
  subst hw2
  simp only
  go_wp2_with fail
  refine (failed_any wB w.heap.size bs1 lv1 { d with cap := c } (unhide HDB)).mono ?_
  rintro e w2 ⟨rfl, hw2⟩
  have hw2 := hw2.symm
  subst hw2
  simp only
  go_wp2_with fail
  refine (bopen_any wB B w.heap.size bs1 lv1 { d with cap := c } psR (unhide HDB) (by rw [unhide HSZ]; omega) hB (by omega) (fun g hg => by have := lv1b g hg; omega) (ok.cap c) hs (by show d.late.length ≤ _; omega) (unhide HOI).tells (unhide HOI).len (unhide HOI).lt (unhide HOI).room).mono ?_
  rintro e w3 ⟨lv3, st3, b3, ho⟩
  rw [unhide HO5] at ho
  dsimp only at ho
  obtain ⟨he, d3⟩ : e = .returned (.tuple #[.pointer none, .int .i64 9]) ∧ DAt w3 w.heap.size bs1 lv3 D := by
    rcases ho with ⟨bb, r1, r2, _⟩ | ⟨_, he, d3⟩
    · rcases unhide HO6 with e | e
      · rw [r1] at e; cases e
      · exact absurd e r2
    · exact ⟨he, d3⟩
  subst he
  have h3 := (unhide HK).kept st3.size fun g cur t hc ht => (unhide HDB).keepsT st3 g cur t hc (lty_disk ht)
  have b03 := (unhide HBB).trans b3
  have fr3 : ∀ g, lv3.ownBlock = some g → B ≤ g := fun g hg => by
    rcases st3.fresh g hg with e | e
    · have := lv1b g e; omega
    · rw [unhide HSZ] at e; omega
  obtain ⟨⟨q0, q1, _, _, _, _, _⟩, qz⟩ := bcell h3.own
  have H3 := hide h3
  have HD3 := hide d3
  have HB3 := hide b03
  have HFR := hide fr3
  clear h3 d3 b03 fr3 ho b3 st3 z0 z1 zz
  go_wp2_with fail
  refine (failed_any w3 w.heap.size bs1 lv3 D (unhide HD3)).mono ?_
  rintro e w4 ⟨rfl, hw4⟩
  have hw4 := hw4.symm
  subst hw4
  go_wp2_with fail
  refine (dead_any w3 w.heap.size bs1 lv3 D (unhide HD3)).mono ?_
  rintro e w4 ⟨rfl, hw4⟩
  have hw4 := hw4.symm
  subst hw4
  go_wp2_with fail
  refine (dblocks_any w3 w.heap.size bs1 lv3 D (unhide HD3)).mono ?_
  rintro e w4 ⟨rfl, hw4⟩
  have hw4 := hw4.symm
  subst hw4
  rw [unhide HO8]
  have hmany : ¬ ((d.safe.length : Int) < 300) := by omega
  have hcase : (d.failed < D.failed) ∨ (¬ d.failed < D.failed ∧ (D.life == 0) = true) := by
    rcases unhide HO7 with e | e
    · exact .inl e
    · by_cases hq : d.failed < D.failed
      · exact .inl hq
      · exact .inr ⟨hq, by simp [e]⟩
  rcases hcase with hf | ⟨hf, hlf⟩
  all_goals
    go_wp2_with fail
    go_ret
    exact ⟨D, w.heap.size, bs1, lv3, rfl, unhide HO9, unhide HD3, unhide H3, unhide HB3, hB, by omega, unhide HFR⟩
end Go.Proofs.YtcbindgpbeaebaaGreatDoor
